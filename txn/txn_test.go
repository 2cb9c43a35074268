package txn

import (
	"bytes"
	"fmt"
	"math"
	"slices"
	"strings"
	"testing"

	"flint/api"
	"flint/keys"
	"flint/nor"
	"flint/ops"
	"flint/store"
	"flint/tree"
	"flint/view"
)

// small and wide are the least geometry, and one that has much room.
var (
	small = api.Geometry{Sectors: 6, Size: 512}
	wide  = api.Geometry{Sectors: 16, Size: 4096}
)

// behind is a text that stands behind all keys.
const behind = "\xff\xff"

// What clients ask for without more.
var (
	begin  = api.Op{Kind: api.OpBegin}
	commit = api.Op{Kind: api.OpCommit}
	abort  = api.Op{Kind: api.OpAbort}
)

// What clients ask for of paths.
func create(path string) api.Op  { return api.Op{Kind: api.OpCreate, Path: path} }
func mkdir(path string) api.Op   { return api.Op{Kind: api.OpMkdir, Path: path} }
func open(path string) api.Op    { return api.Op{Kind: api.OpOpen, Path: path} }
func unlink(path string) api.Op  { return api.Op{Kind: api.OpUnlink, Path: path} }
func rmdir(path string) api.Op   { return api.Op{Kind: api.OpRmdir, Path: path} }
func readdir(path string) api.Op { return api.Op{Kind: api.OpReaddir, Path: path} }
func stat(path string) api.Op    { return api.Op{Kind: api.OpStat, Path: path} }
func rename(path, other string) api.Op {
	return api.Op{Kind: api.OpRename, Path: path, Other: other}
}
func link(path, other string) api.Op { return api.Op{Kind: api.OpLink, Path: path, Other: other} }

// What clients ask for of the handle 0.
func write(from int, s string) api.Op { return api.Op{Kind: api.OpWrite, From: from, Data: []byte(s)} }
func read(from, n int) api.Op         { return api.Op{Kind: api.OpRead, From: from, N: n} }
func truncate(n int) api.Op           { return api.Op{Kind: api.OpTruncate, N: n} }

// device is a new device.
func device(t *testing.T, g api.Geometry) *nor.Device {
	t.Helper()
	d, err := nor.New(g)
	if err != api.OK {
		t.Fatal(err)
	}
	return d
}

// opened is the manager on a device.
func opened(t *testing.T, d *nor.Device) *Manager {
	t.Helper()
	m, err := Open(d)
	if m == nil || err != api.OK {
		t.Fatalf("Open: %v", err)
	}
	return m
}

// fresh is a new device, and the manager on it.
func fresh(t *testing.T, g api.Geometry) (*nor.Device, *Manager) {
	t.Helper()
	d := device(t, g)
	return d, opened(t, d)
}

// same tells whether two answers are the same in all their fields.
func same(a, b api.Result) bool {
	return a.Err == b.Err && a.N == b.N && bytes.Equal(a.Data, b.Data) && slices.Equal(a.Names, b.Names) && a.Stat == b.Stat
}

// answers fails the test, if a client isn't answered just this.
func answers(t *testing.T, m *Manager, client int, o api.Op, want api.Result) {
	t.Helper()
	if got := m.Do(client, o); !same(got, want) {
		t.Errorf("client %d, kind %d, %.20q: %+v, not %+v", client, o.Kind, o.Path, got, want)
	}
}

// fails fails the test, if a client isn't answered just an error.
func fails(t *testing.T, m *Manager, client int, o api.Op, want api.Errno) {
	t.Helper()
	answers(t, m, client, o, api.Result{Err: want})
}

// does fails the test, if a client isn't answered OK to all operations.
func does(t *testing.T, m *Manager, client int, l ...api.Op) {
	t.Helper()
	for _, o := range l {
		if r := m.Do(client, o); r.Err != api.OK {
			t.Fatalf("client %d, kind %d, %.20q: %v", client, o.Kind, o.Path, r.Err)
		}
	}
}

// committed has a client do a whole transaction.
func committed(t *testing.T, m *Manager, l ...api.Op) {
	t.Helper()
	does(t, m, 7, begin)
	does(t, m, 7, l...)
	does(t, m, 7, commit)
}

// names fails the test, if who begins now doesn't see just these names in the root.
func names(t *testing.T, m *Manager, want ...string) {
	t.Helper()
	does(t, m, 6, begin)
	answers(t, m, 6, readdir("/"), api.Result{Names: want})
	does(t, m, 6, abort)
}

// stands fails the test, if a client doesn't stand so.
func stands(t *testing.T, m *Manager, client int, in, doomed bool) {
	t.Helper()
	if m.In(client) != in || m.Doomed(client) != doomed || (m.View(client) != nil) != in {
		t.Errorf("client %d: %t, %t, %v, not %t, %t", client, m.In(client), m.Doomed(client), m.View(client), in, doomed)
	}
}

// pairs are all keys of a tree, with their values.
func pairs(t *tree.Tree) []api.Pair { return t.Range("", behind) }

// told is all that a manager tells, but what its clients would be answered.
func told(m *Manager) string {
	s := fmt.Sprint(m.Commits(), m.Gone(), pairs(m.Tree()))
	for client := range api.Clients {
		v := m.View(client)
		s += fmt.Sprintf(" %t %t %v %q %q", m.In(client), m.Doomed(client), v.Writes(), v.Reads(), v.Ranges())
	}
	return s
}

// changesNothing fails the test, if what is done answers nothing else, but changes what a manager tells, or does an act.
func changesNothing(t *testing.T, d *nor.Device, m *Manager, do func()) {
	t.Helper()
	was, acts := told(m), d.Acts()
	do()
	if is := told(m); is != was || d.Acts() != acts {
		t.Errorf("%s, %d acts; was %s, %d", is, d.Acts(), was, acts)
	}
}

// noClients are numbers that no client has.
var noClients = []int{-1, api.Clients, api.Clients + 1, 256, 1 << 32, math.MinInt, math.MaxInt}

// P22.1: a manager on a new device has nothing, and nobody is in a transaction.
func TestOpenNew(t *testing.T) {
	d, m := fresh(t, small)
	if m.Commits() != 0 || m.Gone() || m.Tree().Len() != 0 || d.Acts() != 0 {
		t.Error(told(m), d.Acts())
	}
	for client := range api.Clients {
		stands(t, m, client, false, false)
	}
}

// P22.1: on a device that is off, or nil, there is none.
func TestOpenOff(t *testing.T) {
	d := device(t, small)
	d.Off()
	for _, d := range []*nor.Device{nil, d} {
		if m, err := Open(d); m != nil || err != api.ErrOff {
			t.Error(m, err)
		}
	}
	d.On()
	opened(t, d)
}

// P22.1: what was committed is there in a manager that is opened later; nobody is in a transaction there, and none were committed.
func TestOpenAgain(t *testing.T) {
	d, m := fresh(t, small)
	committed(t, m, create("/a"), open("/a"), write(0, "abc"))
	does(t, m, 0, begin, create("/b"))
	was := pairs(m.Tree())
	for _, off := range []bool{false, true} {
		if off {
			d.Off()
			d.On()
		}
		n := opened(t, d)
		if !slices.Equal(pairs(n.Tree()), was) || n.Commits() != 0 || n.Gone() {
			t.Error(told(n))
		}
		stands(t, n, 0, false, false)
		names(t, n, "a")
		does(t, n, 3, begin)
		answers(t, n, 3, stat("/a"), api.Result{Stat: api.Inode{Kind: api.File, Links: 1, Size: 3}})
		answers(t, n, 3, open("/a"), api.Result{N: 0})
		answers(t, n, 3, read(0, 9), api.Result{Data: []byte("abc"), N: 3})
	}
}

// P22.1 (R1): a nil manager is gone.
func TestNil(t *testing.T) {
	var m *Manager
	for _, client := range append([]int{0, 7}, noClients...) {
		for kind := range 256 {
			fails(t, m, client, api.Op{Kind: uint8(kind), Path: "/"}, api.ErrOff)
		}
		stands(t, m, client, false, false)
	}
	if m.Commits() != 0 || m.Tree() != nil || !m.Gone() {
		t.Error(m.Commits(), m.Tree(), m.Gone())
	}
}

// P22.1: of no such client nothing is so; whatever it asks for, that is ErrClient, and changes nothing.
func TestNoSuchClient(t *testing.T) {
	d, m := fresh(t, small)
	does(t, m, 0, begin, create("/a"))
	does(t, m, 7, begin)
	changesNothing(t, d, m, func() {
		for _, client := range noClients {
			for kind := range 256 {
				fails(t, m, client, api.Op{Kind: uint8(kind), Path: "/b"}, api.ErrClient)
			}
			stands(t, m, client, false, false)
		}
	})
}

// P22.1: who is in no transaction can begin one, and nothing else, whatever the kind.
func TestOutside(t *testing.T) {
	d, m := fresh(t, small)
	committed(t, m, create("/a"))
	changesNothing(t, d, m, func() {
		for client := range api.Clients {
			for kind := range 256 {
				if kind != api.OpBegin {
					fails(t, m, client, api.Op{Kind: uint8(kind), Path: "/a", Other: "/b"}, api.ErrNoTx)
				}
			}
			stands(t, m, client, false, false)
		}
	})
}

// P22.1: who begins is in a transaction, and nobody else; who is in one can't begin, and is in it still.
func TestBegin(t *testing.T) {
	d, m := fresh(t, small)
	for client := range api.Clients {
		// Fields that don't count.
		o := api.Op{Kind: api.OpBegin, Path: "x", Other: "y", Handle: -1, From: -1, N: -1, Data: []byte("z")}
		fails(t, m, client, o, api.OK)
		for other := range api.Clients {
			stands(t, m, other, other <= client, false)
		}
		v := m.View(client)
		if len(v.Writes()) > 0 || len(v.Reads()) > 0 || len(v.Ranges()) > 0 {
			t.Error(v.Writes(), v.Reads(), v.Ranges())
		}
		does(t, m, client, create("/a"), open("/a"))
		changesNothing(t, d, m, func() { fails(t, m, client, o, api.ErrInTx) })
		does(t, m, client, write(0, "a"))
	}
}

// P22.1: who aborts is in no transaction any more; nothing of it is there, also no handle, and others know nothing of it.
func TestAbort(t *testing.T) {
	d, m := fresh(t, small)
	committed(t, m, create("/a"))
	does(t, m, 1, begin, stat("/a"))
	acts, was := d.Acts(), pairs(m.Tree())
	does(t, m, 0, begin, create("/b"), open("/a"), write(0, "abc"))
	does(t, m, 0, api.Op{Kind: api.OpAbort, Path: "x", Handle: -1, N: -1})
	stands(t, m, 0, false, false)
	fails(t, m, 0, abort, api.ErrNoTx)
	if d.Acts() != acts || !slices.Equal(pairs(m.Tree()), was) || m.Commits() != 1 {
		t.Error(told(m), d.Acts(), acts)
	}
	does(t, m, 0, begin)
	fails(t, m, 0, read(0, 3), api.ErrHandle)
	answers(t, m, 0, stat("/a"), api.Result{Stat: api.Inode{Kind: api.File, Links: 1}})
	does(t, m, 0, commit)
	does(t, m, 1, commit)
	names(t, m, "a")
}

// P22.1, P22.3: who commits is in no transaction any more; who begins then sees what it did, who began ahead doesn't.
func TestCommit(t *testing.T) {
	d, m := fresh(t, small)
	does(t, m, 1, begin)
	does(t, m, 0, begin, create("/a"), open("/a"), write(1, "b"))
	names(t, m)
	acts := d.Acts()
	fails(t, m, 0, api.Op{Kind: api.OpCommit, Path: "x", Handle: -1, N: -1, Data: []byte("y")}, api.OK)
	stands(t, m, 0, false, false)
	fails(t, m, 0, commit, api.ErrNoTx)
	if m.Commits() != 1 || d.Acts() == acts {
		t.Error(told(m), d.Acts(), acts)
	}
	names(t, m, "a")
	fails(t, m, 1, stat("/a"), api.ErrNone)
	does(t, m, 0, begin)
	fails(t, m, 0, read(0, 3), api.ErrHandle)
	answers(t, m, 0, open("/a"), api.Result{N: 0})
	answers(t, m, 0, read(0, 3), api.Result{Data: []byte("\x00b"), N: 2})
}

// P22.1, P22.3: the answers of a transaction's operations are those of a desk over what was committed as it began; errors doom nothing, and kinds that a desk doesn't do are ErrKind.
func TestOperations(t *testing.T) {
	_, m := fresh(t, small)
	committed(t, m, mkdir("/d"), create("/d/a"), create("/b"), open("/b"), write(0, "bytes"))
	does(t, m, 4, begin)
	desk := ops.New(view.New(m.Tree()))
	l := []api.Op{
		create("/b"), create("b"), mkdir("/d/../e"), open("/d"), open("/x"), open("/d/a"), open("/b"), readdir("/"), readdir("/b"), stat("/"), stat("/b/x"),
		{Kind: api.OpWrite, Handle: 1, From: 3, Data: []byte("abc")}, {Kind: api.OpRead, Handle: 1, N: 9}, {Kind: api.OpRead, Handle: 2}, {Kind: api.OpRead, N: 1025},
		{Kind: api.OpTruncate, Handle: 1, N: 4097}, {Kind: api.OpTruncate, Handle: 1, N: 2}, {Kind: api.OpClose, Handle: 1}, {Kind: api.OpClose, Handle: 1},
		rename("/d", "/d/x"), rename("/b", "/c"), rename("/", "/x"), link("/c", "/l"), link("/d", "/x"), unlink("/d"), unlink("/l"), rmdir("/d"), rmdir("/c"), readdir("/"), stat("/c"),
	}
	for kind := range 256 {
		if kind == 0 || kind > api.OpStat {
			l = append(l, api.Op{Kind: uint8(kind), Path: "/q"})
			fails(t, m, 4, l[len(l)-1], api.ErrKind)
		}
	}
	for i, o := range l {
		answers(t, m, 4, o, desk.Do(o, uint32(100+i)))
		stands(t, m, 4, true, false)
	}
	does(t, m, 4, commit)
	names(t, m, "c", "d")
}

// tooMuch is a row of operations, whose last one is more than a transaction can write.
func tooMuch() []api.Op {
	var l []api.Op
	l = append(l, create("/big"), open("/big"))
	for i := range 4 {
		l = append(l, write(1024*i, strings.Repeat("b", 1024)))
	}
	return l
}

// doom dooms a client, that is in a transaction.
func doom(t *testing.T, m *Manager, client int) {
	t.Helper()
	l := tooMuch()
	last := len(l) - 2
	does(t, m, client, l[:last]...)
	stands(t, m, client, true, false)
	fails(t, m, client, l[last], api.ErrTxFull)
	stands(t, m, client, true, true)
}

// P22.1, P22.2: a transaction that grew too great is doomed: ErrTxFull; then all else is ErrDoomed, and does nothing; its commit is ErrAborted, and nothing of it is there.
func TestDoomed(t *testing.T) {
	d, m := fresh(t, wide)
	committed(t, m, create("/a"))
	acts, was := d.Acts(), pairs(m.Tree())
	does(t, m, 1, begin, stat("/a"))
	does(t, m, 2, begin)
	doom(t, m, 2)
	stands(t, m, 1, true, false)
	changesNothing(t, d, m, func() {
		for kind := range 256 {
			want := api.ErrDoomed
			switch kind {
			case api.OpBegin:
				want = api.ErrInTx
			case api.OpCommit, api.OpAbort:
				continue
			}
			fails(t, m, 2, api.Op{Kind: uint8(kind), Path: "/a", Other: "/c", Handle: 0}, want)
		}
	})
	fails(t, m, 2, commit, api.ErrAborted)
	stands(t, m, 2, false, false)
	fails(t, m, 2, commit, api.ErrNoTx)
	if d.Acts() != acts || !slices.Equal(pairs(m.Tree()), was) || m.Commits() != 1 {
		t.Error(told(m), d.Acts(), acts)
	}
	does(t, m, 1, commit)
	names(t, m, "a")
}

// P22.1: one that is doomed can be aborted; who begins again isn't doomed.
func TestDoomedAbort(t *testing.T) {
	d, m := fresh(t, wide)
	does(t, m, 0, begin)
	doom(t, m, 0)
	does(t, m, 0, abort)
	stands(t, m, 0, false, false)
	does(t, m, 0, begin, stat("/"), create("/c"))
	stands(t, m, 0, true, false)
	does(t, m, 0, commit)
	names(t, m, "c")
	does(t, m, 0, begin)
	doom(t, m, 0)
	fails(t, m, 0, commit, api.ErrAborted)
	does(t, m, 0, begin, create("/e"), commit)
	if m.Commits() != 2 || d.Acts() == 0 {
		t.Error(told(m))
	}
}

// P22.1, DOC's example 8: forty-eight keys are written by a transaction, a forty-ninth isn't.
func TestMostWrites(t *testing.T) {
	for n := 23; n <= 24; n++ {
		_, m := fresh(t, wide)
		does(t, m, 0, begin)
		for i := range n {
			does(t, m, 0, create(fmt.Sprint("/", i)))
		}
		if l := m.View(0).Writes(); len(l) != 2*n {
			t.Fatal(len(l))
		}
		want, is := api.ErrTxFull, api.ErrAborted
		if n == 23 {
			// An entry, an inode; a directory would be one key more: the root.
			does(t, m, 0, create("/last"))
			want, is = api.OK, api.OK
			fails(t, m, 0, stat("/last/x"), api.ErrNotDir)
			stands(t, m, 0, true, false)
			does(t, m, 0, commit, begin)
		}
		fails(t, m, 0, create("/more"), want)
		stands(t, m, 0, true, n == 24)
		fails(t, m, 0, commit, is)
	}
}

// P22.1: a copy of the view is answered: whatever is done to it, the transaction is as it was; and what the transaction does later it doesn't show.
func TestView(t *testing.T) {
	_, m := fresh(t, small)
	committed(t, m, create("/a"))
	does(t, m, 0, begin, stat("/a"), create("/b"))
	v, w := m.View(0), m.View(0)
	if v == w || len(v.Writes()) != 2 || len(v.Reads()) == 0 {
		t.Fatal(v.Writes(), v.Reads())
	}
	was := told(m)
	v.Get("x")
	v.Range("a", "z")
	v.Set("x", "y")
	v.Cut(keys.Entry(1, "b"))
	if is := told(m); is != was {
		t.Errorf("%s, was %s", is, was)
	}
	answers(t, m, 0, readdir("/"), api.Result{Names: []string{"a", "b"}})
	does(t, m, 0, create("/c"))
	if len(w.Writes()) != 2 || len(w.Ranges()) != 0 {
		t.Error(w.Writes(), w.Ranges())
	}
	does(t, m, 0, commit)
	if m.View(0) != nil || len(w.Writes()) != 2 {
		t.Error(m.View(0), w.Writes())
	}
}

// P22.1: the tree is the store's: what was committed, and nothing else; a tree that was answered stays as it is.
func TestTree(t *testing.T) {
	d, m := fresh(t, small)
	does(t, m, 0, begin, create("/a"))
	empty := m.Tree()
	if empty.Len() != 0 {
		t.Error(pairs(empty))
	}
	does(t, m, 0, commit)
	s, err := store.Open(d)
	if err != api.OK || !slices.Equal(pairs(m.Tree()), pairs(s.Tree())) || m.Tree().Len() != 2 || empty.Len() != 0 {
		t.Error(err, pairs(m.Tree()), pairs(s.Tree()), pairs(empty))
	}
}

// P22.1 (R3): what is handed in isn't kept or changed; what is answered is new memory.
func TestMemory(t *testing.T) {
	_, m := fresh(t, small)
	o := write(0, "abcd")
	does(t, m, 0, begin, create("/a"), open("/a"), o)
	if string(o.Data) != "abcd" {
		t.Error(o.Data)
	}
	copy(o.Data, "xxxx")
	for range 2 {
		for range 2 {
			answers(t, m, 0, read(0, 9), api.Result{Data: []byte("abcd"), N: 4})
			answers(t, m, 0, readdir("/"), api.Result{Names: []string{"a"}})
			copy(m.Do(0, read(0, 9)).Data, "yyyy")
			copy(m.Do(0, readdir("/")).Names, []string{"y"})
		}
		does(t, m, 0, commit, begin, open("/a"))
	}
}

// P22.1: the chapter's example.
func TestExample(t *testing.T) {
	_, m := fresh(t, small)
	does(t, m, 0, begin)
	does(t, m, 1, begin)
	does(t, m, 0, create("/a"))
	does(t, m, 1, create("/a"))
	fails(t, m, 0, commit, api.OK)
	fails(t, m, 1, commit, api.ErrConflict)
	stands(t, m, 1, false, false)
	names(t, m, "a")
}
