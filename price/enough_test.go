package price

import (
	"fmt"
	"slices"
	"strings"
	"testing"

	"flint/api"
	"flint/nor"
	"flint/ops"
	"flint/store"
	"flint/tree"
	"flint/txn"
	"flint/view"
)

// frames is how many bytes the frames of all keys of a tree have that operations made.
func frames(t *tree.Tree) int {
	return store.Price(t.Range("", "Z"))
}

// with is a tree with writes done to it.
func with(t *tree.Tree, writes []api.Pair) *tree.Tree {
	for _, p := range writes {
		if p.Gone {
			t = t.Cut(p.Key)
		} else {
			t = t.Set(p.Key, p.Value)
		}
	}
	return t
}

// path is one of few paths, of names that are short and long.
func path(next func(n int) int) string {
	s := ""
	for range next(3) {
		s += "/" + []string{"d", strings.Repeat("e", 32)}[next(2)]
	}
	return s + "/" + []string{"a", "b", "d", strings.Repeat("f", 32), strings.Repeat("e", 32), fmt.Sprint(next(30))}[next(6)]
}

// op is any operation; most of them make or grow something.
func op(next func(n int) int, bytes int) api.Op {
	kinds := []uint8{4, 4, 4, 5, 5, 6, 6, 6, 6, 7, 9, 9, 9, 9, 9, 9, 9, 10, 10, 11, 12, 13, 14, 15, 16}
	o := api.Op{Kind: kinds[next(len(kinds))], Path: path(next), Other: path(next), Handle: next(3), From: next(4 * bytes), N: next(4 * bytes), Data: make([]byte, next(bytes))}
	for i := range o.Data {
		// Blocks of which the last bytes are 0 are shorter.
		if next(4) > 0 {
			o.Data[i] = byte(next(256))
		}
	}
	return o
}

// enough fails the test, if what is there needs more than its price.
func enough(t *testing.T, b *tree.Tree) {
	t.Helper()
	if need, price := frames(b), Tree(b); need > price {
		t.Fatalf("%d bytes are needed, %d are the price", need, price)
	}
}

// P23.2: whatever operations there are, what is there needs at most its price; and a write needs at most what is told of it.
func TestEnough(t *testing.T) {
	writes, most := 0, 0
	for seed := range 60 {
		next := chance(uint32(seed))
		b, ino, bytes := tree.New(), uint32(2), []int{30, 200, 1000}[seed%3]
		for range 60 {
			desk := ops.New(view.New(b))
			for range next(30) {
				before := with(b, desk.View().Writes())
				o := op(next, bytes)
				r := desk.Do(o, ino)
				ino++
				if r.Err == api.ErrTxFull {
					// What it did by then never comes to be there.
					desk = ops.New(view.New(b))
					break
				}
				after := with(b, desk.View().Writes())
				enough(t, after)
				if o.Kind == api.OpWrite && r.Err == api.OK {
					writes++
					if n := changed(before, after); n > Write(o.From, len(o.Data)) {
						t.Fatalf("a write of %d bytes from %d: %d bytes of %d", len(o.Data), o.From, n, Write(o.From, len(o.Data)))
					}
				}
			}
			b = with(b, desk.View().Writes())
			most = max(most, Tree(b))
		}
	}
	if writes < 1000 || most < 10000 {
		t.Errorf("only %d writes, a price of %d", writes, most)
	}
}

// changed is how many bytes the frames of what is another one in a second tree have.
func changed(before, after *tree.Tree) int {
	var l []api.Pair
	for _, p := range after.Range("", "Z") {
		if value, there := before.Get(p.Key); !there || value != p.Value {
			l = append(l, p)
		}
	}
	for _, p := range before.Range("", "Z") {
		if _, there := after.Get(p.Key); !there {
			l = append(l, api.Pair{Key: p.Key, Gone: true})
		}
	}
	return store.Price(l)
}

// P23.2: what one operation after the other adds to the price; where all blocks are full it is just what is needed, but for the root, as long as that has no key.
func TestJustEnough(t *testing.T) {
	desk := ops.New(view.New(tree.New()))
	full := []byte(strings.Repeat("x", 1024))
	for i, c := range []struct {
		o           api.Op
		price, less int
	}{
		{api.Op{Kind: api.OpStat, Path: "/"}, 50, 50},
		{api.Op{Kind: api.OpCreate, Path: "/abc"}, 50 + 50 + 44, 50},
		{api.Op{Kind: api.OpMkdir, Path: "/d"}, 144 + 50 + 42, 0},
		{api.Op{Kind: api.OpLink, Path: "/abc", Other: "/d/ab"}, 236 + 43, 0},
		{api.Op{Kind: api.OpOpen, Path: "/abc"}, 279, 0},
		{api.Op{Kind: api.OpWrite, Data: full}, 279 + 16*103, 0},
		{api.Op{Kind: api.OpWrite, From: 64, Data: full}, 279 + 17*103, 0},
		// A block that isn't full needs less; one of which there is none needs nothing.
		{api.Op{Kind: api.OpWrite, From: 1088, Data: full[:1]}, 279 + 18*103, 63},
		{api.Op{Kind: api.OpTruncate, N: 1089 + 64}, 279 + 19*103, 63 + 103},
		{api.Op{Kind: api.OpTruncate, N: 4096}, 279 + 64*103, 63 + 46*103},
		{api.Op{Kind: api.OpTruncate, N: 65}, 279 + 2*103, 63},
		{api.Op{Kind: api.OpTruncate, N: 64}, 279 + 103, 0},
		{api.Op{Kind: api.OpRename, Path: "/abc", Other: "/d/a"}, 279 + 103 - 2, 0},
		{api.Op{Kind: api.OpUnlink, Path: "/d/a"}, 380 - 42, 0},
		{api.Op{Kind: api.OpUnlink, Path: "/d/ab"}, 142, 0},
		{api.Op{Kind: api.OpRmdir, Path: "/d"}, 50, 0},
	} {
		if r := desk.Do(c.o, uint32(2+i)); r.Err != api.OK {
			t.Fatal(i, r)
		}
		b := with(nil, desk.View().Writes())
		if price, need := Tree(b), frames(b); price != c.price || need != price-c.less {
			t.Errorf("%d: a price of %d, not %d, of which %d are needed", i, price, c.price, need)
		}
	}
}

// ask fails the test, if what a client asks for isn't answered OK.
func ask(t *testing.T, m *txn.Manager, l ...api.Op) {
	t.Helper()
	for _, o := range l {
		if r := m.Do(0, o); r.Err != api.OK {
			t.Fatalf("%+v: %+v", o, r)
		}
	}
}

// open is a manager on a new device.
func open(t *testing.T, g api.Geometry) (*nor.Device, *txn.Manager) {
	t.Helper()
	d, err := nor.New(g)
	if err != api.OK {
		t.Fatal(err)
	}
	m, err := txn.Open(d)
	if err != api.OK {
		t.Fatal(err)
	}
	return d, m
}

// P23.2, T5: what fits is never refused for want of room, whatever was committed ahead of it.
func TestWhatFitsHasRoom(t *testing.T) {
	near, refused := 0, 0
	for seed := range 40 {
		next := chance(uint32(900 + seed))
		g := []api.Geometry{{Sectors: 6, Size: 512}, {Sectors: 8, Size: 600}, {Sectors: 6, Size: 1024}, {Sectors: 12, Size: 512}}[seed%4]
		d, m := open(t, g)
		for n := range 100 {
			ask(t, m, api.Op{Kind: api.OpBegin})
			for range 1 + next(12) {
				m.Do(0, op(next, 60))
			}
			writes := m.View(0).Writes()
			fits := Fits(g, m.Tree(), writes)
			price := Tree(m.Tree()) + store.Price(writes)
			if fits != (price <= store.Capacity(g)) {
				t.Fatalf("%d of %d: %v", price, store.Capacity(g), fits)
			}
			if price > store.Capacity(g)*9/10 && fits {
				near++
			}
			switch r := m.Do(0, api.Op{Kind: api.OpCommit}); {
			case r.Err == api.ErrSpace && fits:
				t.Fatalf("row %d, commit %d, a price of %d of %d: %v", seed, n, price, store.Capacity(g), r.Err)
			case r.Err == api.ErrSpace:
				refused++
			case r.Err != api.OK && r.Err != api.ErrAborted:
				t.Fatal(r)
			}
			enough(t, m.Tree())
		}
		whole := m.Tree().Range("", "Z")
		m, err := txn.Open(d)
		if err != api.OK || !slices.Equal(m.Tree().Range("", "Z"), whole) {
			t.Fatal(err)
		}
	}
	if near < 100 || refused < 100 {
		t.Errorf("only %d commits near to the capacity, %d refused", near, refused)
	}
}

// P23.2, T5: files of full blocks, one commit each, are made as long as one block more can be written then; that fits over and over, and never lacks room.
func TestUpToThePrice(t *testing.T) {
	full := []byte(strings.Repeat("x", 128))
	for _, g := range []api.Geometry{{Sectors: 6, Size: 512}, {Sectors: 10, Size: 1024}, {Sectors: 7, Size: 4096}} {
		_, m := open(t, g)
		n := 0
		for ; ; n++ {
			path := fmt.Sprint("/", n)
			ask(t, m, api.Op{Kind: api.OpBegin}, api.Op{Kind: api.OpCreate, Path: path}, api.Op{Kind: api.OpOpen, Path: path}, api.Op{Kind: api.OpWrite, Data: full})
			writes := m.View(0).Writes()
			if need := File(128) + Entry(path[1:]); store.Price(writes) != need {
				t.Fatalf("%d bytes, not %d", store.Price(writes), need)
			}
			if !Fits(g, m.Tree(), append(writes, pairs(Write(0, 1))...)) {
				break
			}
			ask(t, m, api.Op{Kind: api.OpCommit})
		}
		ask(t, m, api.Op{Kind: api.OpAbort})
		if n == 0 || frames(m.Tree()) != Tree(m.Tree())-Inode() {
			t.Fatalf("%d files of %d bytes, the price is %d", n, frames(m.Tree()), Tree(m.Tree()))
		}
		for i := range 300 {
			ask(t, m, api.Op{Kind: api.OpBegin}, api.Op{Kind: api.OpOpen, Path: fmt.Sprint("/", i%n)}, api.Op{Kind: api.OpWrite, From: i % 128, Data: []byte{byte(i)}})
			if !Fits(g, m.Tree(), m.View(0).Writes()) {
				t.Fatalf("write %d: a price of %d, and of %d", i, Tree(m.Tree()), store.Price(m.View(0).Writes()))
			}
			ask(t, m, api.Op{Kind: api.OpCommit})
		}
	}
}
