package txn

import (
	"fmt"
	"slices"
	"strings"
	"testing"

	"flint/api"
	"flint/keys"
	"flint/node"
	"flint/nor"
	"flint/store"
)

// P22.1: where the store has no room, a commit is ErrSpace: nothing of it is there, it counts as no cause, and no commit; who only looked can commit.
func TestSpace(t *testing.T) {
	d, m := fresh(t, small)
	full := 0
	for full < 100 {
		does(t, m, 0, begin, create(fmt.Sprint("/", full)), open(fmt.Sprint("/", full)), write(0, strings.Repeat("x", 200)))
		if r := m.Do(0, commit); r.Err == api.ErrSpace {
			break
		} else if r.Err != api.OK {
			t.Fatal(r)
		}
		full++
	}
	if full == 0 || full == 100 || m.Gone() || m.Commits() != uint64(full) {
		t.Fatal(full, m.Commits())
	}
	stands(t, m, 0, false, false)
	was := pairs(m.Tree())
	path := fmt.Sprint("/", full)
	does(t, m, 1, begin)
	fails(t, m, 1, stat(path), api.ErrNone)
	does(t, m, 2, begin, stat("/0"))
	does(t, m, 0, begin, create(path), open(path), write(0, strings.Repeat("y", 1024)))
	answers(t, m, 0, commit, api.Result{Err: api.ErrSpace})
	stands(t, m, 0, false, false)
	fails(t, m, 0, commit, api.ErrNoTx)
	if !slices.Equal(pairs(m.Tree()), was) || m.Commits() != uint64(full) || m.Gone() {
		t.Error(told(m))
	}
	acts := d.Acts()
	does(t, m, 1, commit)
	does(t, m, 2, commit)
	if d.Acts() != acts {
		t.Error(d.Acts(), acts)
	}
	if n := opened(t, d); !slices.Equal(pairs(n.Tree()), was) {
		t.Error(told(n))
	}
}

// P22.1: a clash is told ahead of a want of room, and then no act is done.
func TestConflictAheadOfSpace(t *testing.T) {
	d, m := fresh(t, small)
	does(t, m, 0, begin, stat("/"), create("/big"), open("/big"), write(0, strings.Repeat("x", 1024)))
	committed(t, m, mkdir("/d"))
	acts := d.Acts()
	fails(t, m, 0, commit, api.ErrConflict)
	if d.Acts() != acts {
		t.Error(d.Acts(), acts)
	}
	does(t, m, 0, begin, stat("/"), create("/big"), open("/big"), write(0, strings.Repeat("x", 1024)))
	fails(t, m, 0, commit, api.ErrSpace)
}

// P22.1, DOC's example 6: a sector comes to be bad as a commit writes to it: ErrBad, and nothing of it is there; the next commit goes elsewhere.
func TestBad(t *testing.T) {
	for bad := range 6 {
		d, m := fresh(t, small)
		committed(t, m, create("/a"), create("/h"))
		d.Spoil(bad)
		told, want := 0, []string{"a", "h"}
		for i := range 60 {
			does(t, m, 1, begin, stat("/h"), readdir("/"))
			does(t, m, 0, begin, open("/h"), write(0, fmt.Sprint(i)), rename("/a", fmt.Sprint("/b", i)), rename(fmt.Sprint("/b", i), "/a"))
			commits := m.Commits()
			switch r := m.Do(0, commit); r.Err {
			case api.OK:
				fails(t, m, 1, commit, api.ErrConflict)
				commits++
			case api.ErrBad:
				if told++; !same(r, api.Result{Err: api.ErrBad}) {
					t.Error(r)
				}
				fails(t, m, 1, commit, api.OK)
			default:
				t.Fatal(i, r)
			}
			stands(t, m, 0, false, false)
			names(t, m, want...)
			if m.Commits() != commits || m.Gone() {
				t.Error(m.Commits(), commits)
			}
		}
		if told != 1 {
			t.Errorf("sector %d: ErrBad %d times", bad, told)
		}
	}
}

// P22.1: if all sectors are bad, nothing is committed that writes; what was is there, and can be looked at.
func TestAllBad(t *testing.T) {
	d, m := fresh(t, small)
	committed(t, m, create("/a"))
	for sector := range 6 {
		d.Spoil(sector)
	}
	for range 20 {
		does(t, m, 0, begin, create("/b"))
		if r := m.Do(0, commit); r.Err != api.ErrBad && r.Err != api.ErrSpace {
			t.Fatal(r)
		}
		stands(t, m, 0, false, false)
		names(t, m, "a")
		does(t, m, 0, begin, stat("/a"), commit)
	}
	names(t, opened(t, d), "a")
}

// gone fails the test, if a manager whose store is gone doesn't answer ErrOff to everybody, or changes.
func gone(t *testing.T, d *nor.Device, m *Manager) {
	t.Helper()
	if !m.Gone() {
		t.Error("it isn't gone")
	}
	changesNothing(t, d, m, func() {
		for _, client := range append([]int{0, 1, 2, 7}, noClients...) {
			for kind := range 256 {
				fails(t, m, client, api.Op{Kind: uint8(kind), Path: "/a", Other: "/c"}, api.ErrOff)
			}
		}
	})
}

// P22.1: when the device went off, all is ErrOff, ahead of all else, also when it is on again; those who were in a transaction are, but nothing comes of it.
func TestOff(t *testing.T) {
	d, m := fresh(t, wide)
	committed(t, m, create("/a"))
	does(t, m, 0, begin, create("/b"))
	does(t, m, 1, begin)
	doom(t, m, 1)
	was := pairs(m.Tree())
	d.Off()
	for range 2 {
		gone(t, d, m)
		stands(t, m, 0, true, false)
		stands(t, m, 1, true, true)
		stands(t, m, 2, false, false)
		if !slices.Equal(pairs(m.Tree()), was) || m.Commits() != 1 {
			t.Error(told(m))
		}
		d.On()
	}
	n := opened(t, d)
	names(t, n, "a")
	committed(t, n, create("/c"))
	gone(t, d, m)
	names(t, opened(t, d), "a", "c")
}

// P22.1, DOC's examples 1, 4 and 5: whichever act of a commit is cut off: ErrOff, the client is in no transaction any more; all of it is there then, or nothing.
func TestCommitCutOff(t *testing.T) {
	l := []api.Op{create("/b"), mkdir("/d"), open("/a"), write(0, "new"), rename("/a", "/d/a")}
	run := func(cut, whole int) (*nor.Device, *Manager, api.Result) {
		d, m := fresh(t, small)
		committed(t, m, create("/a"), open("/a"), write(0, "old"))
		does(t, m, 1, begin, stat("/a"))
		does(t, m, 0, begin)
		does(t, m, 0, l...)
		if cut >= 0 {
			d.Cut(cut, whole, 0)
		}
		return d, m, m.Do(0, commit)
	}
	d, m, r := run(-1, 0)
	if !same(r, api.Result{}) {
		t.Fatal(r)
	}
	after := pairs(m.Tree())
	acts := len(m.Tree().Range("", behind))
	ahead := 0
	for n := range acts + 3 {
		for _, whole := range []int{0, 7, 30, 8192} {
			d, m, r = run(n, whole)
			if r.Err == api.OK {
				continue
			}
			if !same(r, api.Result{Err: api.ErrOff}) {
				t.Fatal(r)
			}
			ahead = max(ahead, n)
			gone(t, d, m)
			stands(t, m, 0, false, false)
			stands(t, m, 1, true, false)
			was := pairs(m.Tree())
			if m.Commits() != 1 || slices.Equal(was, after) {
				t.Error(told(m))
			}
			d.On()
			is := pairs(opened(t, d).Tree())
			if !slices.Equal(is, was) && !slices.Equal(is, after) {
				t.Errorf("act %d, %d bytes: %v", n, whole, is)
			}
			if whole == 0 && !slices.Equal(is, was) {
				t.Errorf("act %d, no byte: %v", n, is)
			}
			if !slices.Equal(is, pairs(opened(t, d).Tree())) {
				t.Error("it doesn't stay so")
			}
		}
	}
	if ahead < 4 {
		t.Errorf("only %d acts are cut off", ahead)
	}
}

// number is that of the inode that an entry of a tree means, as a client sees it.
func number(t *testing.T, m *Manager, client int, name string) string {
	t.Helper()
	v, ok := m.View(client).Look(keys.Entry(1, name))
	if !ok {
		t.Fatalf("%s isn't there", name)
	}
	return v
}

// numbered fails the test, if what a client sees isn't of this number.
func numbered(t *testing.T, m *Manager, client int, name string, want uint32) {
	t.Helper()
	if got := number(t, m, client, name); got != string([]byte{byte(want >> 24), byte(want >> 16), byte(want >> 8), byte(want)}) {
		t.Errorf("%s: %q, not %d", name, got, want)
	}
	if _, ok := m.View(client).Look(keys.Inode(want)); !ok {
		t.Errorf("%s: no inode %d", name, want)
	}
}

// P22.1: numbers rise by one with each operation at a desk that makes an inode, whatever is answered, whoever it is, whatever comes of it; with nothing else.
func TestNumbers(t *testing.T) {
	_, m := fresh(t, wide)
	does(t, m, 0, begin, create("/a"))
	numbered(t, m, 0, "a", 2)
	fails(t, m, 0, create("/a"), api.ErrExists)
	fails(t, m, 0, mkdir("/a"), api.ErrExists)
	fails(t, m, 0, create("/x/y"), api.ErrNone)
	fails(t, m, 0, create(""), api.ErrName)
	does(t, m, 0, mkdir("/b"))
	numbered(t, m, 0, "b", 7)
	does(t, m, 1, begin, mkdir("/a"))
	numbered(t, m, 1, "a", 8)
	// These make nothing, or aren't done at a desk.
	does(t, m, 0, open("/a"), write(0, "x"), link("/a", "/l"), rename("/l", "/m"), unlink("/m"), stat("/"))
	fails(t, m, 2, create("/c"), api.ErrNoTx)
	fails(t, m, 9, create("/c"), api.ErrClient)
	fails(t, m, 0, api.Op{Kind: 17, Path: "/c"}, api.ErrKind)
	fails(t, m, 0, begin, api.ErrInTx)
	does(t, m, 1, abort, begin, create("/c"))
	numbered(t, m, 1, "c", 9)
	does(t, m, 0, commit)
	fails(t, m, 1, commit, api.ErrConflict)
	does(t, m, 1, begin)
	doom(t, m, 1)
	fails(t, m, 1, create("/d"), api.ErrDoomed)
	does(t, m, 2, begin, create("/d"))
	numbered(t, m, 2, "d", 11)
	for i := range 22 {
		does(t, m, 2, create(fmt.Sprint("/", i)))
	}
	does(t, m, 2, create("/more"))
	fails(t, m, 2, create("/evenmore"), api.ErrTxFull)
	fails(t, m, 2, commit, api.ErrAborted)
	does(t, m, 2, begin, create("/d"))
	numbered(t, m, 2, "d", 36)
}

// P22.1: in a manager that is opened later numbers go on from what is there alone.
func TestNumbersAgain(t *testing.T) {
	d, m := fresh(t, wide)
	committed(t, m, create("/a"), create("/b"), create("/c"))
	does(t, m, 0, begin, create("/d"))
	numbered(t, m, 0, "d", 5)
	n := opened(t, d)
	does(t, n, 0, begin, create("/d"))
	numbered(t, n, 0, "d", 5)
	does(t, n, 0, abort)
	committed(t, n, unlink("/c"))
	n = opened(t, d)
	does(t, n, 0, begin, create("/d"))
	numbered(t, n, 0, "d", 4)
	does(t, n, 0, abort)
	committed(t, n, unlink("/a"), unlink("/b"))
	if n.Tree().Len() != 0 {
		t.Error(pairs(n.Tree()))
	}
	n = opened(t, d)
	does(t, n, 0, begin, create("/d"))
	numbered(t, n, 0, "d", 2)
}

// P22.1: the first number is one above the greatest one of all keys of inodes, entries and blocks, and of no other texts; at least the root's, and 1.
func TestFirstNumber(t *testing.T) {
	dir := node.Put(node.Root())
	for _, c := range []struct {
		keys []string
		want uint32
	}{
		{nil, 2},
		{[]string{keys.Inode(1)}, 2},
		{[]string{keys.Inode(0)}, 2},
		{[]string{keys.Inode(2)}, 3},
		{[]string{keys.Inode(77)}, 78},
		{[]string{keys.Entry(99, "x")}, 100},
		{[]string{keys.Block(200, 3)}, 201},
		{[]string{keys.Inode(300), keys.Entry(299, "x"), keys.Block(298, 65535)}, 301},
		{[]string{keys.Inode(298), keys.Entry(300, "\xff"), keys.Block(299, 0)}, 301},
		{[]string{keys.Inode(298), keys.Entry(299, "x"), keys.Block(300, 1)}, 301},
		{[]string{keys.Inode(256), keys.Inode(1 << 24), keys.Inode(65535)}, 1<<24 + 1},
		{[]string{keys.Inode(1<<32 - 2)}, 1<<32 - 1},
		{[]string{keys.Inode(5), "J\x00\x00\x01\x00", "I\x00\x00\x01\x00\x00", "I\x00\x00\x01", "E\x00\x00\x01\x00", "D\x00\x00\x01\x00\x00", "z", "\xff\xff\xff\xff\xff\xff"}, 6},
	} {
		d := device(t, wide)
		s, err := store.Open(d)
		var l []api.Pair
		for _, key := range c.keys {
			l = append(l, api.Pair{Key: key, Value: dir})
		}
		if err != api.OK || len(l) > 0 && s.Put(l) != api.OK {
			t.Fatal(err)
		}
		m := opened(t, d)
		does(t, m, 0, begin, create("/new"))
		numbered(t, m, 0, "new", c.want)
	}
}
