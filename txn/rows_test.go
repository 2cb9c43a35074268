package txn

import (
	"fmt"
	"math"
	"slices"
	"strings"
	"testing"

	"flint/api"
	"flint/keys"
	"flint/nor"
	"flint/ops"
	"flint/store"
	"flint/tree"
	"flint/view"
)

// chance answers numbers that look like chance, the same ones each time.
func chance(x uint32) func(n int) int {
	return func(n int) int {
		x = x*1664525 + 1013904223
		return int(x>>8) % n
	}
}

// note is what was asked at a desk, and what was answered.
type note struct {
	o api.Op
	r api.Result
}

// party is a client of a model: its desk is over what was committed as it began, its own one over a serial machine's files then.
type party struct {
	in, doomed bool
	desk, own  *ops.Desk
	since      int
	done       []note
}

// model is what the chapter's words say: a tree instead of a store; all that was ever written by commits is kept. Beside it stands a serial machine, whose inodes' numbers are others.
type model struct {
	tree    *tree.Tree
	log     [][]api.Pair
	ino     uint32
	parties [8]party
	serial  *tree.Tree
	made    uint32
}

// newModel is one of a tree, and of a serial machine that has the same files and directories.
func newModel(t, serial *tree.Tree, made uint32) *model {
	m := &model{tree: t, serial: serial, made: made, ino: 2}
	for _, p := range pairs(t) {
		if _, number, _, _ := keys.Split(p.Key); number >= m.ino {
			m.ino = number + 1
		}
	}
	return m
}

// with is a tree with writes done to it.
func with(t *tree.Tree, writes []api.Pair) *tree.Tree {
	for _, p := range writes {
		if p.Gone {
			t = t.Cut(p.Key)
		} else {
			t = t.Set(p.Key, p.Value)
		}
	}
	return t
}

// other is a number for an inode of the serial machine: an odd number has no part in common with how many numbers there are.
func (m *model) other() uint32 {
	m.made++
	return m.made * 2654435761
}

// clashes tells whether something that a view read was written by what was committed since.
func (m *model) clashes(since int, v *view.View) bool {
	for _, writes := range m.log[since:] {
		for _, p := range writes {
			in := func(r [2]string) bool { return r[0] <= p.Key && p.Key < r[1] }
			if slices.Contains(v.Reads(), p.Key) || slices.ContainsFunc(v.Ranges(), in) {
				return true
			}
		}
	}
	return false
}

// verdict is what a commit is answered, if there is room; and what it writes.
func (m *model) verdict(p party) (api.Errno, []api.Pair) {
	switch {
	case p.doomed:
		return api.ErrAborted, nil
	case m.clashes(p.since, p.desk.View()):
		return api.ErrConflict, nil
	}
	return api.OK, p.desk.View().Writes()
}

// row is a manager, and what it is held against.
type row struct {
	t    *testing.T
	next func(n int) int
	d    *nor.Device
	m    *Manager
	is   *model
	// commits is how many there were since the manager was opened.
	commits uint64
	met     map[string]int
	// Of so many things that are asked for about one ends a transaction; a write has fewer than so many bytes.
	asks, bytes int
	// bad is whether sectors came to be bad, cuts whether acts are cut off.
	bad, cuts bool
}

// newRow is one on a new device.
func newRow(t *testing.T, seed uint32, g api.Geometry, met map[string]int) *row {
	t.Helper()
	d, m := fresh(t, g)
	return &row{t: t, next: chance(seed), d: d, m: m, is: newModel(tree.New(), tree.New(), 1), met: met, asks: 8, bytes: 100}
}

// path is any path, mostly one of few, that ends with one of these names.
func (r *row) path(ends string) string {
	if r.next(30) == 0 {
		return []string{"/", "", "a", "/..", strings.Repeat("/a", 17), "/" + strings.Repeat("n", 33)}[r.next(6)]
	}
	s := ""
	for range r.next(1 + r.next(4)) {
		s += []string{"/d", "/e"}[r.next(2)]
	}
	return s + "/" + ends[r.next(len(ends)):][:1]
}

// op is any operation at a desk; all fields are there, those that don't count too.
func (r *row) op() api.Op {
	kinds := []uint8{4, 4, 4, 4, 4, 5, 6, 6, 6, 6, 6, 6, 7, 8, 8, 9, 9, 9, 9, 9, 9, 9, 9, 9, 10, 11, 12, 13, 14, 15, 16}
	o := api.Op{Kind: kinds[r.next(len(kinds))], Path: r.path("aabbcde"), Other: r.path("aabbccd"), Handle: r.next(5) / 4, From: r.next(4 * r.bytes), N: r.next(3 * r.bytes), Data: make([]byte, r.next(r.bytes))}
	for i := range o.Data {
		o.Data[i] = byte(r.next(4))
	}
	if o.Kind == api.OpMkdir || o.Kind == api.OpRmdir {
		o.Path = r.path("ddeea")
	}
	switch r.next(60) {
	case 0:
		o.Kind = uint8(r.next(256))
	case 1:
		o.From, o.N = []int{-1, 4096, math.MaxInt, math.MinInt}[r.next(4)], 1025
	case 2:
		o.Data = make([]byte, 1000+r.next(30))
	case 3:
		o.Handle = r.next(20) - 2
	}
	return o
}

// asked is what is asked for next, and by whom, if there is such a client.
func (r *row) asked() (int, api.Op) {
	client, o := r.next(8), r.op()
	p := &r.is.parties[client]
	switch {
	case r.next(60) == 0:
		return []int{-1, 8, math.MaxInt, math.MinInt}[r.next(4)], o
	case !p.in && r.next(8) > 0, r.next(60) == 0:
		o.Kind = api.OpBegin
	case r.next(6*r.asks) == 0:
		o.Kind = api.OpAbort
	case r.next(r.asks) == 0:
		o.Kind = api.OpCommit
	}
	return client, o
}

// step has a client ask for something, and holds what it is answered against the model.
func (r *row) step() {
	r.t.Helper()
	client, o := r.asked()
	acts := r.d.Acts()
	got := r.m.Do(client, o)
	want, writes := r.answer(client, o, got.Err)
	if !same(got, want) {
		r.t.Fatalf("client %d, %+v: %+v, not %+v", client, o, got, want)
	}
	if !writes && r.d.Acts() != acts {
		r.t.Fatalf("client %d, %+v: %d acts", client, o, r.d.Acts()-acts)
	}
	r.met[fmt.Sprint(o.Kind, got.Err)]++
}

// answer is what the model answers, of what the store may have refused, too; and whether that asked the store for something.
func (r *row) answer(client int, o api.Op, got api.Errno) (api.Result, bool) {
	r.t.Helper()
	of := func(err api.Errno) (api.Result, bool) { return api.Result{Err: err}, false }
	if client < 0 || client >= 8 {
		return of(api.ErrClient)
	}
	p := &r.is.parties[client]
	switch {
	case o.Kind == api.OpBegin && p.in:
		return of(api.ErrInTx)
	case o.Kind == api.OpBegin:
		*p = party{in: true, desk: ops.New(view.New(r.is.tree)), own: ops.New(view.New(r.is.serial)), since: len(r.is.log)}
		return of(api.OK)
	case !p.in:
		return of(api.ErrNoTx)
	case o.Kind == api.OpAbort:
		*p = party{}
		return of(api.OK)
	case o.Kind == api.OpCommit:
		was := *p
		*p = party{}
		err, writes := r.commit(was, got)
		return api.Result{Err: err}, writes
	case p.doomed:
		return of(api.ErrDoomed)
	}
	return r.operate(p, o), false
}

// operate is what the model answers at a desk.
func (r *row) operate(p *party, o api.Op) api.Result {
	r.t.Helper()
	ino := r.is.ino
	if o.Kind == api.OpCreate || o.Kind == api.OpMkdir {
		r.is.ino++
	}
	want := p.desk.Do(o, ino)
	// P22.3: the same, on other inodes' numbers.
	if own := p.own.Do(o, r.is.other()); !same(own, want) {
		r.t.Fatalf("%+v: %+v, not %+v", o, want, own)
	}
	p.doomed = want.Err == api.ErrTxFull
	p.done = append(p.done, note{o, want})
	return want
}

// commit is what the model answers to a commit; and whether that asked the store for something.
func (r *row) commit(p party, got api.Errno) (api.Errno, bool) {
	r.t.Helper()
	err, writes := r.is.verdict(p)
	if err != api.OK {
		return err, false
	}
	if len(writes) > 0 && got != api.OK {
		r.refused(got)
		return got, true
	}
	if len(writes) > 0 {
		r.is.tree, r.is.log = with(r.is.tree, writes), append(r.is.log, writes)
		r.commits++
	}
	r.serially(p, writes)
	return api.OK, len(writes) > 0
}

// serially does a transaction that was committed as a whole behind all others (P22.2).
func (r *row) serially(p party, writes []api.Pair) {
	r.t.Helper()
	desk := ops.New(view.New(r.is.serial))
	for _, n := range p.done {
		if got := desk.Do(n.o, r.is.other()); !same(got, n.r) {
			r.t.Fatalf("%+v: %+v, but serially %+v", n.o, n.r, got)
		}
	}
	if l := desk.View().Writes(); len(l) != len(writes) {
		r.t.Fatalf("written %v, but serially %v", writes, l)
	}
	r.is.serial = with(r.is.serial, desk.View().Writes())
}

// refused fails the test, if the store has no cause to refuse something so.
func (r *row) refused(err api.Errno) {
	r.t.Helper()
	r.met[fmt.Sprint("refused ", err)]++
	switch {
	case err == api.ErrOff && r.cuts && r.m.Gone():
	case err == api.ErrBad && r.bad:
	case err == api.ErrSpace && (r.bad || r.narrow()):
	default:
		r.t.Fatalf("a commit that may be is %v", err)
	}
}

// narrow tells whether there may be no room for what a transaction writes at most.
func (r *row) narrow() bool {
	most := api.MaxWrites * (store.Price([]api.Pair{{Key: "k", Value: strings.Repeat("v", api.MaxValue)}}) + 6)
	return store.Price(pairs(r.is.tree))+most > store.Capacity(r.d.Geometry())
}

// held fails the test, if the manager doesn't stand as the model does.
func (r *row) held() {
	r.t.Helper()
	if r.m.Commits() != r.commits || r.m.Gone() {
		r.t.Fatalf("%d commits, %t, not %d", r.m.Commits(), r.m.Gone(), r.commits)
	}
	if is := pairs(r.m.Tree()); !slices.Equal(is, pairs(r.is.tree)) {
		r.t.Fatalf("the tree has %v, not %v", is, pairs(r.is.tree))
	}
	for client, p := range r.is.parties {
		stands(r.t, r.m, client, p.in, p.doomed)
		v := r.m.View(client)
		if w := p.desk.View(); !slices.Equal(v.Writes(), w.Writes()) || !slices.Equal(v.Reads(), w.Reads()) || !slices.Equal(v.Ranges(), w.Ranges()) {
			r.t.Fatalf("client %d: written %v, not %v; read %q, not %q; ranges %q, not %q", client, v.Writes(), w.Writes(), v.Reads(), w.Reads(), v.Ranges(), w.Ranges())
		}
	}
}

// image is what files and directories a tree has, without inodes' numbers.
func image(t *tree.Tree) string {
	d := ops.New(view.New(t))
	var all func(path string) string
	all = func(path string) string {
		x := d.Do(stat("/"+strings.TrimPrefix(path, "/")), 0).Stat
		s := fmt.Sprintln(path, x.Kind, x.Links, x.Size)
		if x.Kind == api.File {
			d.Do(open(path), 0)
			for from := 0; from < 4096; from += 1024 {
				s += fmt.Sprintf("%q", d.Do(read(from, 1024), 0).Data)
			}
			d.Do(api.Op{Kind: api.OpClose}, 0)
		}
		for _, name := range d.Do(readdir("/"+strings.TrimPrefix(path, "/")), 0).Names {
			if below := path + "/" + name; strings.Count(below, "/") <= 16 {
				s += all(below)
			}
		}
		return s
	}
	return all("")
}

// alike fails the test, if the manager's files and directories aren't those of the serial machine.
func (r *row) alike() {
	r.t.Helper()
	if is, want := image(r.m.Tree()), image(r.is.serial); is != want {
		r.t.Fatalf("%s\nserially:\n%s", is, want)
	}
}

// P22.1 to P22.4: long rows of all that clients ask for, held against the chapter's words, and against a serial machine.
func TestRows(t *testing.T) {
	met := map[string]int{}
	for seed := range uint32(40) {
		r := newRow(t, seed+1, wide, met)
		if seed%4 == 0 {
			r.asks, r.bytes = 40, 700
		}
		for i := range 2500 {
			if r.step(); i%7 == 0 {
				r.held()
			}
			if i%100 == 0 {
				r.alike()
			}
		}
		r.held()
		r.alike()
	}
	for _, c := range []struct {
		kind  int
		err   api.Errno
		least int
	}{
		{api.OpBegin, api.OK, 3000}, {api.OpBegin, api.ErrInTx, 300}, {api.OpWrite, api.ErrClient, 100},
		{api.OpCommit, api.OK, 1000}, {api.OpCommit, api.ErrConflict, 1000}, {api.OpCommit, api.ErrAborted, 10}, {api.OpCommit, api.ErrNoTx, 50},
		{api.OpAbort, api.OK, 300}, {api.OpAbort, api.ErrNoTx, 10}, {api.OpStat, api.ErrDoomed, 20}, {api.OpWrite, api.ErrTxFull, 10}, {api.OpWrite, api.OK, 1000},
	} {
		if n := met[fmt.Sprint(c.kind, c.err)]; n < c.least {
			t.Errorf("only %d of kind %d are %v", n, c.kind, c.err)
		}
	}
}

// P22.1, P22.2: the same on few bytes, where there often is no room, and sectors come to be bad.
func TestNarrowRows(t *testing.T) {
	met := map[string]int{}
	for seed := range uint32(30) {
		r := newRow(t, seed+500, api.Geometry{Sectors: 7 + int(seed%4), Size: 512 << (seed % 2)}, met)
		r.bytes = 400
		for i := range 2500 {
			if seed%3 == 0 && r.next(200) == 0 {
				r.bad = true
				r.d.Spoil(r.next(r.d.Geometry().Sectors))
			}
			if r.step(); i%20 == 0 {
				r.held()
				r.alike()
			}
		}
	}
	for err, least := range map[api.Errno]int{api.ErrSpace: 200, api.ErrBad: 15} {
		if n := met[fmt.Sprint("refused ", err)]; n < least {
			t.Errorf("only %d are %v", n, err)
		}
	}
}

// mount opens the manager anew: what it has is what the model has, or what that would have behind a transaction more.
func (r *row) mount(p party) {
	r.t.Helper()
	r.d.On()
	r.m, r.commits = opened(r.t, r.d), 0
	is, maybe := pairs(r.m.Tree()), p.desk.View().Writes()
	switch {
	case slices.Equal(is, pairs(r.is.tree)):
		r.met["none"]++
	case slices.Equal(is, pairs(with(r.is.tree, maybe))):
		r.is.tree = with(r.is.tree, maybe)
		r.serially(p, maybe)
		r.met["whole"]++
	default:
		r.t.Fatalf("%v, not %v, nor %v more", is, pairs(r.is.tree), maybe)
	}
	r.is = newModel(r.is.tree, r.is.serial, r.is.made)
}

// P22.1, P22.2: falls at any act of commits: what was committed is there, and of the commit that was cut off all, or nothing; the row goes on.
func TestRowsWithFalls(t *testing.T) {
	met := map[string]int{}
	for seed := range uint32(30) {
		r := newRow(t, seed+900, api.Geometry{Sectors: 8 + int(seed%5), Size: 1024}, met)
		r.cuts, r.asks = true, 5
		for range 4000 {
			if r.next(10) == 0 {
				r.d.Cut(r.next(14), r.next(200), byte(r.next(256)))
			}
			was := r.is.parties
			r.step()
			for i, p := range was {
				// The one that was cut off is the one that is in no transaction any more.
				if r.m.Gone() && p.in && !r.is.parties[i].in {
					r.mount(p)
					r.alike()
					break
				}
			}
			r.held()
		}
	}
	for what, least := range map[string]int{"whole": 30, "none": 300} {
		if met[what] < least {
			t.Errorf("only %d: %s", met[what], what)
		}
	}
}
