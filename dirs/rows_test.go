package dirs

import (
	"maps"
	"slices"
	"strings"
	"testing"

	"flint/api"
	"flint/tree"
	"flint/view"
	"flint/walk"
)

// chance answers numbers that look like chance, the same ones each time.
func chance(x uint32) func(n int) int {
	return func(n int) int {
		x = x*1664525 + 1013904223
		return int(x>>8) % n
	}
}

// number is the number that four bytes say.
func number(s string) uint32 {
	return uint32(s[0])<<24 | uint32(s[1])<<16 | uint32(s[2])<<8 | uint32(s[3])
}

// hung is an entry: where it stands, and what it means.
type hung struct{ dir, ino uint32 }

// raw is what the keys of a view say.
func raw(t *testing.T, v *view.View) (map[uint32]api.Inode, []hung, []uint32) {
	t.Helper()
	inodes, entries, blocks := map[uint32]api.Inode{1: dir(2, 1)}, []hung(nil), []uint32(nil)
	for _, p := range shown(v) {
		switch {
		case strings.HasPrefix(p.Key, "full"):
		case p.Key[0] == 'I':
			x := api.Inode{Kind: p.Value[0], Links: number(p.Value[1:]), Size: number(p.Value[5:]), Parent: number(p.Value[9:])}
			inodes[number(p.Key[1:])] = x
		case p.Key[0] == 'E':
			entries = append(entries, hung{number(p.Key[1:]), number(p.Value)})
		case p.Key[0] == 'D':
			blocks = append(blocks, number(p.Key[1:]))
		default:
			t.Fatalf("the key %q", p.Key)
		}
	}
	return inodes, entries, blocks
}

// sound fails the test, if what P18.2 says isn't so of what stands in a view, told by its keys alone.
func sound(t *testing.T, v *view.View) {
	t.Helper()
	inodes, entries, blocks := raw(t, v)
	means, links := map[uint32]int{}, map[uint32]uint32{}
	for _, e := range entries {
		if inodes[e.dir].Kind != api.Dir || inodes[e.ino] == (api.Inode{}) {
			t.Fatalf("the entry %v of %v means %v", e, inodes[e.dir], inodes[e.ino])
		}
		means[e.ino]++
		if inodes[e.ino].Kind == api.Dir {
			links[e.dir]++
			if inodes[e.ino].Parent != e.dir {
				t.Fatalf("the directory %d in %d has the parent %d", e.ino, e.dir, inodes[e.ino].Parent)
			}
		}
	}
	for ino, x := range inodes {
		want, hangs := uint32(means[ino]), means[ino] > 0
		if x.Kind == api.Dir {
			want, hangs = 2+links[ino], means[ino] == 1 || ino == 1 && means[ino] == 0
		}
		if x.Links != want || !hangs {
			t.Fatalf("the inode %d: %v has %d entries and should have %d links", ino, x, means[ino], want)
		}
		for at, steps := ino, 0; x.Kind == api.Dir && at != 1; at, steps = inodes[at].Parent, steps+1 {
			if steps > len(inodes) {
				t.Fatalf("the directory %d stands below itself", ino)
			}
		}
	}
	for _, ino := range blocks {
		if inodes[ino].Kind != api.File {
			t.Fatalf("a block of %d: %v", ino, inodes[ino])
		}
	}
}

// thing is a file or a directory: names lead to others; it knows nothing of links, keys or parents.
type thing struct {
	dir    bool
	ino    uint32
	blocks int
	names  map[string]*thing
}

// model is what the chapter's words say, of things.
type model struct{ root *thing }

// split are a path's names, that are of one letter here, if they may be; an error, if it is none.
func split(path string) ([]string, api.Errno) {
	switch {
	case path == "":
		return nil, api.ErrName
	case path[0] != '/':
		return nil, api.ErrInvalid
	case path == "/":
		return nil, api.OK
	}
	l := strings.Split(path[1:], "/")
	if slices.Contains(l, "") || slices.Contains(l, ".") || slices.Contains(l, "..") || len(l) > 16 {
		return nil, api.ErrName
	}
	return l, api.OK
}

// find is where a path's last name stands, that name, and what it means, if there is something.
func (m model) find(path string) (*thing, string, *thing, api.Errno) {
	l, err := split(path)
	if err != api.OK {
		return nil, "", nil, err
	}
	var in *thing
	name, x := "", m.root
	for _, n := range l {
		if x == nil {
			return nil, "", nil, api.ErrNone
		}
		if !x.dir {
			return nil, "", nil, api.ErrNotDir
		}
		in, name, x = x, n, x.names[n]
	}
	return in, name, x, api.OK
}

// links are counted: of a directory 2, and one for each directory in it; of a file its entries from another thing on.
func (x *thing) links(from *thing) uint32 {
	if !x.dir {
		return count(from, x)
	}
	n := uint32(2)
	for _, y := range x.names {
		if y.dir {
			n++
		}
	}
	return n
}

// count is how many entries mean a thing.
func count(in, x *thing) uint32 {
	n := uint32(0)
	for _, y := range in.names {
		if y == x {
			n++
		}
		n += count(y, x)
	}
	return n
}

// make, remove, list, link, unlink and rename are told as the chapter tells them.
func (m model) make(path string, isDir bool, ino uint32) api.Errno {
	in, name, x, err := m.find(path)
	switch {
	case err != api.OK:
		return err
	case x != nil:
		return api.ErrExists
	}
	in.names[name] = &thing{dir: isDir, ino: ino, names: map[string]*thing{}}
	return api.OK
}

func (m model) remove(path string) api.Errno {
	in, name, x, err := m.find(path)
	switch {
	case err != api.OK:
		return err
	case x == m.root:
		return api.ErrRoot
	case x == nil:
		return api.ErrNone
	case !x.dir:
		return api.ErrNotDir
	case len(x.names) > 0:
		return api.ErrNotEmpty
	}
	delete(in.names, name)
	return api.OK
}

func (m model) list(path string) ([]string, api.Errno) {
	_, _, x, err := m.find(path)
	switch {
	case err != api.OK:
		return nil, err
	case x == nil:
		return nil, api.ErrNone
	case !x.dir:
		return nil, api.ErrNotDir
	}
	return slices.Sorted(maps.Keys(x.names)), api.OK
}

func (m model) link(old, path string) api.Errno {
	_, _, x, err := m.find(old)
	switch {
	case err != api.OK:
		return err
	case x == nil:
		return api.ErrNone
	case x.dir:
		return api.ErrIsDir
	}
	in, name, y, err := m.find(path)
	switch {
	case err != api.OK:
		return err
	case y != nil:
		return api.ErrExists
	}
	in.names[name] = x
	return api.OK
}

func (m model) unlink(path string) api.Errno {
	in, name, x, err := m.find(path)
	switch {
	case err != api.OK:
		return err
	case x == nil:
		return api.ErrNone
	case x.dir:
		return api.ErrIsDir
	}
	delete(in.names, name)
	return api.OK
}

func (m model) rename(old, path string) api.Errno {
	in, name, x, err := m.find(old)
	switch {
	case err != api.OK:
		return err
	case x == m.root:
		return api.ErrRoot
	case x == nil:
		return api.ErrNone
	}
	there, other, y, err := m.find(path)
	switch {
	case err != api.OK:
		return err
	case y == m.root:
		return api.ErrRoot
	case x == y:
		return api.OK
	case x.dir && strings.HasPrefix(path, old+"/"):
		return api.ErrInvalid
	case y != nil && x.dir && !y.dir:
		return api.ErrNotDir
	case y != nil && x.dir && len(y.names) > 0:
		return api.ErrNotEmpty
	case y != nil && !x.dir && y.dir:
		return api.ErrIsDir
	}
	delete(in.names, name)
	there.names[other] = x
	return api.OK
}

// pairs are all keys that a view shows then: those of a thing, and of all that stand in it.
func (m model) pairs(x *thing, parent uint32, to map[string]string) {
	node := api.Inode{Kind: api.File, Links: x.links(m.root), Size: uint32(64 * x.blocks)}
	if x.dir {
		node = dir(x.links(m.root), parent)
	}
	to[inodeKey(x.ino)] = written(node)
	for n := range x.blocks {
		to[blockKey(x.ino, n)] = "b"
	}
	for name, y := range x.names {
		to[entryKey(x.ino, name)] = four(y.ino)
		m.pairs(y, x.ino, to)
	}
}

// held fails the test, if a view doesn't show just what the model has.
func (m model) held(t *testing.T, v *view.View) {
	t.Helper()
	want := map[string]string{}
	m.pairs(m.root, 1, want)
	got := map[string]string{inodeKey(1): written(dir(2, 1))}
	for _, p := range shown(v) {
		if !strings.HasPrefix(p.Key, "full") {
			got[p.Key] = p.Value
		}
	}
	if !maps.Equal(got, want) {
		t.Fatalf("shown: %q, not %q", got, want)
	}
}

// row is a view with the model that it is held against, and of how many names its paths are.
type row struct {
	m    model
	wide int
	v    *view.View
	made uint32
	next func(n int) int
}

// path is any path, mostly one that may be; of few names things often meet, of more there are more of them.
func (r *row) path() string {
	odd := []string{"/", "", "a", "//", "/a/", "/.", "/a/..", strings.Repeat("/a", 17)}
	if r.next(25) == 0 {
		return odd[r.next(len(odd))]
	}
	s := ""
	for range 1 + r.next(1+r.next(4)) {
		s += "/" + string(rune('a'+r.next(r.wide)))
	}
	return s
}

// call is a call on a view, and what the model answers to the same one.
func (r *row) call() (func(v *view.View) api.Errno, func() api.Errno) {
	a, b := r.path(), r.path()
	switch r.next(14) {
	case 0, 1, 2, 3, 4, 5:
		r.made++
		kind, ino := uint8(1+r.next(2)), r.made
		return func(v *view.View) api.Errno { return Make(v, a, kind, ino) }, func() api.Errno { return r.m.make(a, kind == api.Dir, ino) }
	case 6:
		return func(v *view.View) api.Errno { return Remove(v, a) }, func() api.Errno { return r.m.remove(a) }
	case 7, 8, 9:
		return func(v *view.View) api.Errno { return Link(v, a, b) }, func() api.Errno { return r.m.link(a, b) }
	case 10:
		return func(v *view.View) api.Errno { return Unlink(v, a) }, func() api.Errno { return r.m.unlink(a) }
	}
	return func(v *view.View) api.Errno { return Rename(v, a, b) }, func() api.Errno { return r.m.rename(a, b) }
}

// step does a call, and holds its answer against the model's; one for which there was no room is done again behind a commit.
func (r *row) step(t *testing.T) {
	t.Helper()
	do, told := r.call()
	was := r.v.Copy()
	got := do(r.v)
	if got == api.ErrTxFull {
		r.v = anew(was)
		got = do(r.v)
		if n := len(was.Writes()) + len(r.v.Writes()); got != api.OK || n <= api.MaxWrites {
			t.Fatalf("no room for %d keys, then %v", n, got)
		}
	}
	if got != api.OK && !slices.Equal(was.Writes(), r.v.Writes()) {
		t.Fatalf("with %v something is done", got)
	}
	if want := told(); got != want {
		t.Fatalf("answered %v, not %v", got, want)
	}
}

// grow gives a file that there is some blocks, as layer 19 does.
func (r *row) grow() {
	_, _, x, err := r.m.find(r.path())
	if err != api.OK || x == nil || x.dir || x.blocks > 0 {
		return
	}
	if len(r.v.Writes())+4 > api.MaxWrites {
		r.v = anew(r.v)
	}
	x.blocks = 1 + r.next(3)
	node, _ := walk.Load(r.v, x.ino)
	node.Size = uint32(64 * x.blocks)
	walk.Save(r.v, x.ino, node)
	for n := range x.blocks {
		r.v.Set(blockKey(x.ino, n), "b")
	}
}

// P18.1, P18.2: long rows of all calls, held against a model of files and directories without numbers, links or keys.
func TestRows(t *testing.T) {
	for seed := range uint32(60) {
		r := &row{model{&thing{dir: true, ino: 1, names: map[string]*thing{}}}, 2 + int(seed%6), view.New(tree.New()), 1, chance(seed)}
		for range 400 {
			switch {
			case r.next(20) == 0:
				r.v = filled(anew(r.v), r.next(48))
			case r.next(8) == 0:
				r.grow()
			}
			r.step(t)
			r.m.held(t, r.v)
			sound(t, r.v)
			path := r.path()
			want, err := r.m.list(path)
			if l, e := List(r.v, path); !slices.Equal(l, want) || e != err {
				t.Fatalf("List(%s): %q, %v, not %q, %v", path, l, e, want, err)
			}
		}
	}
}

// P18.2: a tree, whatever is asked for, of paths that lead deep, too.
func TestTree(t *testing.T) {
	for seed := range uint32(20) {
		next := chance(seed + 1000)
		path := func() string { return strings.Repeat("/a", next(17)) + "/" + string(rune('a'+next(3))) }
		v := view.New(tree.New())
		for i := range uint32(600) {
			was := v.Copy()
			var err api.Errno
			switch next(7) {
			case 0, 1:
				err = Make(v, path(), api.Dir, i+2)
			case 2:
				err = Make(v, path(), api.File, i+2)
			case 3:
				err = []func(v *view.View, path string) api.Errno{Remove, Unlink}[next(2)](v, path())
			case 4:
				err = Link(v, path(), path())
			default:
				err = Rename(v, path(), path())
			}
			if err == api.ErrTxFull {
				v = anew(was)
			}
			sound(t, v)
		}
	}
}

// P18.1 (R1): trees of any texts, with entries that lead round and inodes that may not be: each call ends, and what is refused is told as the words say it, and does nothing.
func TestAnyTree(t *testing.T) {
	next := chance(7)
	for range 3000 {
		tr := tree.New()
		for range next(30) {
			ino := uint32(next(6))
			key := []string{inodeKey(ino), entryKey(ino, string(rune('a'+next(3)))), blockKey(ino, next(3)), "E" + four(ino), "D" + four(ino) + "a"}[next(5)]
			value := []string{written(dir(uint32(next(5)), ino)), written(file(uint32(next(3)))), four(uint32(next(6))), "", written(file(1000))}[next(5)]
			if key[0] == 'E' && next(4) > 0 {
				value = four(uint32(next(6)))
			}
			tr = tr.Set(key, value)
		}
		path := func() string {
			s := ""
			for range 1 + next(4) {
				s += "/" + string(rune('a'+next(3)))
			}
			return s
		}
		for range 20 {
			v := view.New(tr)
			a, b := path(), path()
			if next(10) == 0 {
				a = "/"
			}
			if next(10) == 0 {
				b = "/"
			}
			got, want := anyCall(next(6), v, a, b)
			if got != want {
				t.Fatalf("%s, %s: %v, not %v", a, b, got, want)
			}
			if got != api.OK && len(v.Writes()) > 0 {
				t.Fatalf("%s, %s: with %v something is done", a, b, got)
			}
		}
	}
}

// anyCall does one of the calls, and tells what the words say of it, by layer 17's answers.
func anyCall(which int, v *view.View, a, b string) (api.Errno, api.Errno) {
	c := v.Copy()
	x, errA := walk.Find(c, a)
	y, errB := walk.Find(c, b)
	isDir, isFile := x.Node.Kind == api.Dir, x.Node.Kind == api.File
	switch which {
	case 0:
		return Make(v, a, api.Dir, 9), firstOf(errA, iff(x.Ino != 0, api.ErrExists))
	case 1:
		return Remove(v, a), firstOf(errA, iff(x.Ino == 1, api.ErrRoot), iff(x.Ino == 0, api.ErrNone), iff(!isDir, api.ErrNotDir), iff(len(walk.List(c, x.Ino)) > 0, api.ErrNotEmpty))
	case 2:
		l, err := List(v, a)
		if err == api.OK && !slices.Equal(l, walk.List(c, x.Ino)) {
			return api.ErrArg, api.OK
		}
		return err, firstOf(errA, iff(x.Ino == 0, api.ErrNone), iff(!isDir, api.ErrNotDir))
	case 3:
		return Link(v, a, b), firstOf(errA, iff(x.Ino == 0, api.ErrNone), iff(!isFile, api.ErrIsDir), errB, iff(y.Ino != 0, api.ErrExists), iff(x.Node.Links == 1000, api.ErrLinks))
	case 4:
		return Unlink(v, a), firstOf(errA, iff(x.Ino == 0, api.ErrNone), iff(!isFile, api.ErrIsDir))
	}
	want := firstOf(errA, iff(x.Ino == 1, api.ErrRoot), iff(x.Ino == 0, api.ErrNone), errB, iff(y.Ino == 1, api.ErrRoot))
	if want != api.OK || x.Ino == y.Ino {
		return Rename(v, a, b), want
	}
	there := y.Ino != 0
	if isDir {
		want = firstOf(iff(strings.HasPrefix(b, a+"/"), api.ErrInvalid), iff(there && y.Node.Kind != api.Dir, api.ErrNotDir), iff(there && len(walk.List(c, y.Ino)) > 0, api.ErrNotEmpty))
	} else {
		want = iff(there && y.Node.Kind != api.File, api.ErrIsDir)
	}
	return Rename(v, a, b), want
}

// iff is an error, if something is so; firstOf is the first error of some.
func iff(so bool, err api.Errno) api.Errno {
	if so {
		return err
	}
	return api.OK
}

func firstOf(l ...api.Errno) api.Errno {
	i := slices.IndexFunc(l, func(err api.Errno) bool { return err != api.OK })
	if i < 0 {
		return api.OK
	}
	return l[i]
}
