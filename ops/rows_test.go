package ops

import (
	"fmt"
	"maps"
	"math"
	"slices"
	"strings"
	"testing"

	"flint/api"
	"flint/dirs"
	"flint/files"
	"flint/tree"
	"flint/view"
	"flint/walk"
)

// chance answers numbers that look like chance, the same ones each time.
func chance(x uint32) func(n int) int {
	return func(n int) int {
		x = x*1664525 + 1013904223
		return int(x>>8) % n
	}
}

// thing is a file, which has bytes, or a directory, whose names lead to others; it knows nothing of numbers, keys or views.
type thing struct {
	dir   bool
	names map[string]*thing
	links int
	bytes []byte
}

// model is one serial machine, as the chapters' words say it.
type model struct {
	root    *thing
	handles [16]*thing
}

// newModel is a model of nothing but the root.
func newModel() *model {
	return &model{root: &thing{dir: true, names: map[string]*thing{}}}
}

// split are a path's names; an error, if it is none.
func split(path string) ([]string, api.Errno) {
	switch {
	case path == "", len(path) > 255:
		return nil, api.ErrName
	case path[0] != '/':
		return nil, api.ErrInvalid
	case path == "/":
		return nil, api.OK
	}
	l := strings.Split(path[1:], "/")
	bad := func(name string) bool {
		return name == "" || name == "." || name == ".." || len(name) > 32 || strings.Contains(name, "\x00")
	}
	if len(l) > 16 || slices.ContainsFunc(l, bad) {
		return nil, api.ErrName
	}
	return l, api.OK
}

// find is where a path's last name stands, that name, and what it means, if there is something.
func (m *model) find(path string) (*thing, string, *thing, api.Errno) {
	l, err := split(path)
	if err != api.OK {
		return nil, "", nil, err
	}
	var in *thing
	name, x := "", m.root
	for _, n := range l {
		switch {
		case x == nil:
			return nil, "", nil, api.ErrNone
		case !x.dir:
			return nil, "", nil, api.ErrNotDir
		}
		in, name, x = x, n, x.names[n]
	}
	return in, name, x, api.OK
}

// lead is what a path means; ErrNone, if that is nothing.
func (m *model) lead(path string) (*thing, api.Errno) {
	_, _, x, err := m.find(path)
	return x, firstOf(err, iff(err == api.OK && x == nil, api.ErrNone))
}

// do is what is answered to an operation.
func (m *model) do(o api.Op) api.Result {
	switch o.Kind {
	case api.OpCreate:
		return api.Result{Err: m.make(o.Path, &thing{links: 1})}
	case api.OpMkdir:
		return api.Result{Err: m.make(o.Path, &thing{dir: true, names: map[string]*thing{}})}
	case api.OpOpen:
		return m.lowest(o.Path)
	case api.OpClose, api.OpRead, api.OpWrite, api.OpTruncate:
		return m.handle(o)
	case api.OpRename:
		return api.Result{Err: m.rename(o.Path, o.Other)}
	case api.OpLink:
		return api.Result{Err: m.link(o.Path, o.Other)}
	case api.OpUnlink:
		return api.Result{Err: m.unlink(o.Path)}
	case api.OpRmdir:
		return api.Result{Err: m.rmdir(o.Path)}
	case api.OpReaddir:
		x, err := m.lead(o.Path)
		switch {
		case err != api.OK:
			return api.Result{Err: err}
		case !x.dir:
			return api.Result{Err: api.ErrNotDir}
		}
		return api.Result{Names: slices.Sorted(maps.Keys(x.names))}
	case api.OpStat:
		x, err := m.lead(o.Path)
		if err != api.OK {
			return api.Result{Err: err}
		}
		return api.Result{Stat: x.stat()}
	}
	return api.Result{Err: api.ErrKind}
}

// stat is what is told of a thing.
func (x *thing) stat() api.Inode {
	if !x.dir {
		return api.Inode{Kind: 1, Links: uint32(x.links), Size: uint32(len(x.bytes))}
	}
	n := uint32(2)
	for _, y := range x.names {
		if y.dir {
			n++
		}
	}
	return api.Inode{Kind: 2, Links: n}
}

func (m *model) make(path string, y *thing) api.Errno {
	in, name, x, err := m.find(path)
	switch {
	case err != api.OK:
		return err
	case x != nil:
		return api.ErrExists
	}
	in.names[name] = y
	return api.OK
}

func (m *model) lowest(path string) api.Result {
	x, err := m.lead(path)
	at := slices.Index(m.handles[:], nil)
	switch {
	case err != api.OK:
		return api.Result{Err: err}
	case x.dir:
		return api.Result{Err: api.ErrIsDir}
	case at < 0:
		return api.Result{Err: api.ErrMany}
	}
	m.handles[at] = x
	return api.Result{N: at}
}

// open are all handles that are.
func (m *model) open() []int {
	var l []int
	for handle, x := range m.handles {
		if x != nil {
			l = append(l, handle)
		}
	}
	return l
}

// handle is what is answered to what is asked of a handle.
func (m *model) handle(o api.Op) api.Result {
	if o.Handle < 0 || o.Handle > 15 || m.handles[o.Handle] == nil {
		return api.Result{Err: api.ErrHandle}
	}
	x := m.handles[o.Handle]
	if o.Kind == api.OpClose {
		m.handles[o.Handle] = nil
		return api.Result{}
	}
	if x.links == 0 {
		return api.Result{Err: api.ErrHandle}
	}
	switch o.Kind {
	case api.OpRead:
		if o.From < 0 || o.N < 0 || o.N > 1024 {
			return api.Result{Err: api.ErrInvalid}
		}
		b := x.bytes[min(o.From, len(x.bytes)):]
		b = b[:min(o.N, len(b))]
		return api.Result{Data: b, N: len(b)}
	case api.OpWrite:
		return x.write(o.From, o.Data)
	}
	switch {
	case o.N < 0:
		return api.Result{Err: api.ErrInvalid}
	case o.N > 4096:
		return api.Result{Err: api.ErrBig}
	}
	x.bytes = sized(x.bytes, o.N)
	return api.Result{}
}

func (x *thing) write(from int, b []byte) api.Result {
	switch {
	case from < 0, len(b) > 1024:
		return api.Result{Err: api.ErrInvalid}
	case from > 4096-len(b):
		return api.Result{Err: api.ErrBig}
	case len(b) == 0:
		return api.Result{}
	}
	x.bytes = sized(x.bytes, max(len(x.bytes), from+len(b)))
	copy(x.bytes[from:], b)
	return api.Result{N: len(b)}
}

// sized are bytes of another size, with 0 behind them.
func sized(b []byte, size int) []byte {
	c := make([]byte, size)
	copy(c, b)
	return c
}

func (m *model) rename(old, path string) api.Errno {
	in, name, x, err := m.find(old)
	switch {
	case err != api.OK:
		return err
	case x == m.root:
		return api.ErrRoot
	case x == nil:
		return api.ErrNone
	}
	there, other, y, err := m.find(path)
	switch {
	case err != api.OK:
		return err
	case y == m.root:
		return api.ErrRoot
	case x == y:
		return api.OK
	case x.dir && strings.HasPrefix(path, old+"/"):
		return api.ErrInvalid
	case y != nil && x.dir && !y.dir:
		return api.ErrNotDir
	case y != nil && x.dir && len(y.names) > 0:
		return api.ErrNotEmpty
	case y != nil && !x.dir && y.dir:
		return api.ErrIsDir
	}
	if y != nil && !y.dir {
		y.links--
	}
	delete(in.names, name)
	there.names[other] = x
	return api.OK
}

func (m *model) link(old, path string) api.Errno {
	x, err := m.lead(old)
	if err := firstOf(err, iff(err == api.OK && x.dir, api.ErrIsDir)); err != api.OK {
		return err
	}
	err = m.make(path, x)
	if err == api.OK {
		x.links++
	}
	return err
}

func (m *model) unlink(path string) api.Errno {
	in, name, x, err := m.find(path)
	switch {
	case err != api.OK:
		return err
	case x == nil:
		return api.ErrNone
	case x.dir:
		return api.ErrIsDir
	}
	delete(in.names, name)
	x.links--
	return api.OK
}

func (m *model) rmdir(path string) api.Errno {
	in, name, x, err := m.find(path)
	switch {
	case err != api.OK:
		return err
	case x == m.root:
		return api.ErrRoot
	case x == nil:
		return api.ErrNone
	case !x.dir:
		return api.ErrNotDir
	case len(x.names) > 0:
		return api.ErrNotEmpty
	}
	delete(in.names, name)
	return api.OK
}

// iff is an error, if something is so; firstOf is the first error of some.
func iff(so bool, err api.Errno) api.Errno {
	if so {
		return err
	}
	return api.OK
}

func firstOf(l ...api.Errno) api.Errno {
	for _, err := range l {
		if err != api.OK {
			return err
		}
	}
	return api.OK
}

// asks makes up operations, of paths of few names, so that things often meet.
type asks struct {
	next func(n int) int
	wide int
	// few is whether handles are closed often, so that few are open.
	few bool
}

// path is any path, mostly one that may be.
func (a asks) path() string {
	odd := []string{"/", "", "a", "//", "/a/", "/.", "/a/..", strings.Repeat("/a", 17), strings.Repeat("/a", 16), "/" + strings.Repeat("a", 33), "/a\x00", strings.Repeat("/abcdefghijklmno", 16)}
	if a.next(25) == 0 {
		return odd[a.next(len(odd))]
	}
	s := ""
	for range 1 + a.next(1+a.next(4)) {
		s += "/" + string(rune('a'+a.next(a.wide)))
	}
	return s
}

// number is a number that is often at the edge of something.
func (a asks) number() int {
	switch a.next(16) {
	case 0:
		return 64*a.next(20) + a.next(3) - 1
	case 1:
		return 4090 + a.next(12)
	case 2:
		return -a.next(3)
	case 3:
		return 1020 + a.next(8)
	case 4:
		return []int{math.MaxInt, math.MinInt, math.MaxInt - 1024, 1 << 32}[a.next(4)]
	}
	return a.next(700)
}

// bytes are some, of which some are 0, and now and then all.
func (a asks) bytes() []byte {
	b := make([]byte, a.next([]int{1, 5, 70, 70, 300, 1030}[a.next(6)]))
	if a.next(5) == 0 {
		return b
	}
	for i := range b {
		if a.next(3) > 0 {
			b[i] = byte(a.next(256))
		}
	}
	return b
}

// op is any operation; all fields are there, those that don't count too.
func (a asks) op() api.Op {
	often := []uint8{4, 4, 4, 5, 5, 6, 6, 6, 6, 7, 7, 8, 8, 9, 9, 9, 10, 11, 11, 12, 12, 12, 13, 13, 14, 14, 15, 16}
	o := api.Op{Kind: often[a.next(len(often))], Path: a.path(), Other: a.path(), Handle: a.next(16), From: a.number(), N: a.number(), Data: a.bytes()}
	if a.few {
		o.Handle = a.next(3)
	} else if o.Kind == api.OpClose && a.next(4) > 0 {
		o.Kind = api.OpOpen
	}
	switch a.next(30) {
	case 0:
		o.Handle = a.number()
	case 1:
		o.Kind = uint8(a.next(256))
	case 2:
		o.Handle = a.next(18) - 1
	}
	return o
}

// over is a view over all that another one shows, as behind a commit.
func over(v *view.View) *view.View {
	t := tree.New()
	for _, p := range shown(v) {
		t = t.Set(p.Key, p.Value)
	}
	return view.New(t)
}

// onto is a desk with the handles of another one.
func onto(d *Desk, v *view.View) *Desk {
	e := New(v)
	e.handles = d.handles
	return e
}

// held fails the test, if a desk over the same doesn't tell just the model's files and directories.
func (m *model) held(t *testing.T, d *Desk) {
	t.Helper()
	d = New(d.View().Copy())
	var all func(path string, x *thing)
	all = func(path string, x *thing) {
		asked(t, d, api.Op{Kind: api.OpStat, Path: path}, api.Result{Stat: x.stat()})
		if x.dir {
			asked(t, d, api.Op{Kind: api.OpReaddir, Path: path}, api.Result{Names: slices.Sorted(maps.Keys(x.names))})
			for name, y := range x.names {
				if below := strings.TrimSuffix(path, "/") + "/" + name; strings.Count(below, "/") <= 16 {
					all(below, y)
				}
			}
			return
		}
		asked(t, d, api.Op{Kind: api.OpOpen, Path: path}, api.Result{})
		for from := 0; from < 4096; from += 1024 {
			first := min(from, len(x.bytes))
			b := x.bytes[first:min(first+1024, len(x.bytes))]
			asked(t, d, api.Op{Kind: api.OpRead, From: from, N: 1024}, api.Result{Data: b, N: len(b)})
		}
		asked(t, d, api.Op{Kind: api.OpClose}, api.Result{})
	}
	all("/", m.root)
}

// row is one serial machine, and two desks that are held against it, of which each has inodes' numbers of its own.
type row struct {
	asks
	m     *model
	desks [2]*Desk
	made  uint32
	met   map[string]int
}

// answers are what the desks answer to an operation; one for which there was no room is done again behind a commit.
func (r *row) answers(t *testing.T, o api.Op) [2]api.Result {
	t.Helper()
	r.made++
	// Both are others each time: an odd number has no part in common with how many numbers there are.
	numbers := [2]uint32{r.made + 1, (r.made + 1) * 2654435761}
	var got [2]api.Result
	for i, d := range r.desks {
		was := onto(d, d.View().Copy())
		got[i] = d.Do(o, numbers[i])
		if got[i].Err != api.ErrTxFull {
			continue
		}
		r.met["full"]++
		if len(was.View().Writes()) == 0 {
			t.Fatalf("desk %d: no room for %+v alone", i, o)
		}
		r.desks[i] = onto(was, over(was.View()))
		got[i] = r.desks[i].Do(o, numbers[i])
	}
	return got
}

// step does an operation, and holds what is answered against what the model answers.
func (r *row) step(t *testing.T) {
	t.Helper()
	o := r.op()
	if h := o.Handle; slices.Contains(handleKinds, o.Kind) && h >= 0 && h < 16 && r.m.handles[h] != nil && r.m.handles[h].links == 0 {
		r.met["gone"]++
	}
	got, want := r.answers(t, o), r.m.do(o)
	r.met[fmt.Sprint(o.Kind, want.Err)]++
	open := r.m.open()
	for i, d := range r.desks {
		if !same(got[i], want) {
			t.Fatalf("desk %d, %+v: %+v, not %+v", i, o, got[i], want)
		}
		if !slices.Equal(d.Open(), open) {
			t.Fatalf("desk %d, %+v: open are %v, not %v", i, o, d.Open(), open)
		}
	}
}

// commit goes on with the same handles over what there is, in views that write so many other keys already.
func (r *row) commit(n int) {
	for i, d := range r.desks {
		r.desks[i] = filled(onto(d, over(d.View())), n)
	}
}

// P20.1, P20.2: long rows of all operations, held against one serial machine, with a commit now and then.
func TestRows(t *testing.T) {
	met := map[string]int{}
	for seed := range uint32(40) {
		a := asks{chance(seed + 1), 2 + int(seed%5), seed%2 == 0}
		r := &row{a, newModel(), [2]*Desk{New(view.New(tree.New())), New(view.New(tree.New()))}, 0, met}
		for step := range 1500 {
			r.step(t)
			if r.next(100) == 0 {
				r.commit(r.next(48))
			}
			if step%20 == 0 {
				r.m.held(t, r.desks[step/20%2])
			}
		}
	}
	for kind := api.OpCreate; kind <= api.OpStat; kind++ {
		if n := met[fmt.Sprint(kind, api.OK)]; n < 100 {
			t.Errorf("only %d of kind %d are OK", n, kind)
		}
	}
	if met["full"] < 100 || met["gone"] < 100 {
		t.Errorf("only %d without room, %d of files that are gone", met["full"], met["gone"])
	}
}

// below is what the layers below answer to an operation, on a view, and handles as numbers of inodes.
func below(v *view.View, handles *[16]uint32, o api.Op, ino uint32) api.Result {
	of := func(err api.Errno) api.Result { return api.Result{Err: err} }
	if slices.Contains(handleKinds, o.Kind) && (o.Handle < 0 || o.Handle >= 16 || handles[o.Handle] == 0) {
		return of(api.ErrHandle)
	}
	switch o.Kind {
	case api.OpCreate:
		return of(dirs.Make(v, o.Path, api.File, ino))
	case api.OpMkdir:
		return of(dirs.Make(v, o.Path, api.Dir, ino))
	case api.OpOpen:
		x, node, err := walk.Lead(v, o.Path)
		at := slices.Index(handles[:], 0)
		if err := firstOf(err, iff(node.Kind != api.File, api.ErrIsDir), iff(at < 0, api.ErrMany)); err != api.OK {
			return of(err)
		}
		handles[at] = x
		return api.Result{N: at}
	case api.OpClose:
		handles[o.Handle] = 0
		return of(api.OK)
	case api.OpRead:
		b, err := files.Read(v, handles[o.Handle], o.From, o.N)
		return api.Result{Err: err, Data: b, N: len(b)}
	case api.OpWrite:
		if err := files.Write(v, handles[o.Handle], o.From, o.Data); err != api.OK {
			return of(err)
		}
		return api.Result{N: len(o.Data)}
	case api.OpTruncate:
		return of(files.Truncate(v, handles[o.Handle], o.N))
	case api.OpRename:
		return of(dirs.Rename(v, o.Path, o.Other))
	case api.OpLink:
		return of(dirs.Link(v, o.Path, o.Other))
	case api.OpUnlink:
		return of(dirs.Unlink(v, o.Path))
	case api.OpRmdir:
		return of(dirs.Remove(v, o.Path))
	case api.OpReaddir:
		l, err := dirs.List(v, o.Path)
		return api.Result{Err: err, Names: l}
	case api.OpStat:
		_, node, err := walk.Lead(v, o.Path)
		node.Parent = 0
		return api.Result{Err: err, Stat: node}
	}
	return of(api.ErrKind)
}

// junk is a tree of any texts, with entries that lead round, and inodes that may not be.
func junk(next func(n int) int) *tree.Tree {
	t := tree.New()
	for range next(40) {
		ino := uint32(next(7))
		name := string(rune('a' + next(3)))
		key := []string{inodeKey(ino), inodeKey(ino), entryKey(ino, name), entryKey(1, name), blockKey(ino, next(3)), "E" + four(ino), "D" + four(ino) + "a"}[next(7)]
		value := []string{written(dir(uint32(next(5)), ino)), written(file(uint32(next(3)), uint32(next(200)))), four(uint32(next(7))), "", written(file(1000, 5)), written(file(1, 4097))}[next(6)]
		if key[0] == 'E' && next(5) > 0 {
			value = four(uint32(next(7)))
		}
		t = t.Set(key, value)
	}
	return t
}

// P20.1 (R1): in trees of any texts each operation is answered, written and read as the layers below do it, with room and without; beside an error nothing is told.
func TestAsBelow(t *testing.T) {
	for seed := range uint32(2500) {
		a := asks{chance(seed + 50000), 3, seed%2 == 0}
		v := view.New(junk(a.next))
		d := filled(New(v), a.next(2)*a.next(49))
		c, handles := v.Copy(), [16]uint32{}
		for range 40 {
			o, ino := a.op(), uint32(a.next(12))
			got, want := d.Do(o, ino), below(c, &handles, o, ino)
			if !same(got, want) || got.Err != api.OK && !same(got, api.Result{Err: got.Err}) {
				t.Fatalf("row %d, %+v: %+v, not %+v", seed, o, got, want)
			}
			if !slices.Equal(v.Writes(), c.Writes()) || !slices.Equal(v.Reads(), c.Reads()) || !slices.Equal(v.Ranges(), c.Ranges()) || d.handles != handles {
				t.Fatalf("row %d, %+v: written %v, not %v; read %q, not %q; ranges %q, not %q", seed, o, v.Writes(), c.Writes(), v.Reads(), c.Reads(), v.Ranges(), c.Ranges())
			}
		}
		if d.View() != v {
			t.Fatalf("row %d: another view", seed)
		}
	}
}
