package price

import (
	"maps"
	"math"
	"slices"
	"strings"
	"testing"

	"flint/api"
	"flint/keys"
	"flint/node"
	"flint/store"
	"flint/tree"
)

// file and dir are values of inodes' keys.
func file(links, size uint32) string {
	return node.Put(api.Inode{Kind: api.File, Links: links, Size: size})
}

func dir(links, parent uint32) string {
	return node.Put(api.Inode{Kind: api.Dir, Links: links, Parent: parent})
}

// of is a tree of keys, each with the value behind it.
func of(l ...string) *tree.Tree {
	t := tree.New()
	for i := 0; i < len(l); i += 2 {
		t = t.Set(l[i], l[i+1])
	}
	return t
}

// P23.1: what each key adds to the root's price.
func TestTree(t *testing.T) {
	long := strings.Repeat("n", 32)
	for i, c := range []struct {
		t    *tree.Tree
		want int
	}{
		{nil, 50},
		{tree.New(), 50},
		// Inodes, whatever their number; files with as many blocks as their size needs, whether they are there or not.
		{of(keys.Inode(2), file(1, 0)), 100},
		{of(keys.Inode(2), file(1, 1)), 203},
		{of(keys.Inode(2), file(1, 64)), 203},
		{of(keys.Inode(2), file(1, 65)), 306},
		{of(keys.Inode(2), file(1000, 4096)), 100 + 64*103},
		{of(keys.Inode(2), dir(2, 1)), 100},
		{of(keys.Inode(2), dir(math.MaxUint32, math.MaxUint32)), 100},
		{of(keys.Inode(0), file(1, 130)), 409},
		{of(keys.Inode(math.MaxUint32), dir(2, 9), keys.Inode(256), file(1, 1)), 253},
		// Entries, whatever they say.
		{of(keys.Entry(1, "ab"), "\x00\x00\x00\x02"), 93},
		{of(keys.Entry(1, "ab"), ""), 93},
		{of(keys.Entry(0, "a"), "any"), 92},
		{of(keys.Entry(7, long), "\x00\x00\x00\x07"), 123},
		{of(keys.Entry(1, "a"), "", keys.Entry(1, "b"), "", keys.Entry(2, "a"), ""), 50 + 3*42},
		{of(keys.Entry(1, ".."), "", keys.Entry(1, "a/b\x00"), ""), 50 + 43 + 45},
		// Blocks are reckoned with their file alone.
		{of(keys.Block(2, 0), "x"), 50},
		{of(keys.Block(2, 0), strings.Repeat("x", 64), keys.Block(2, 65535), "x", keys.Inode(2), file(1, 2)), 203},
	} {
		if got := Tree(c.t); got != c.want {
			t.Errorf("%d: %d, not %d", i, got, c.want)
		}
	}
}

// P23.1: the root is counted once, in any case; whatever its key says, and if it has none.
func TestRoot(t *testing.T) {
	for _, c := range []struct {
		value string
		want  int
	}{
		{node.Put(node.Root()), 50},
		{dir(900, 1), 50},
		{dir(2, 77), 50},
		{dir(1, 1), 50},
		{"", 50},
		{"x", 50},
		{file(0, 130), 50},
		{file(1, 4097), 50},
		{file(1, 0), 50},
		{file(1, 130), 50 + 309},
	} {
		b := of(keys.Inode(1), c.value)
		if got := Tree(b); got != c.want {
			t.Errorf("%q: %d, not %d", c.value, got, c.want)
		}
		if got := Tree(b.Set(keys.Inode(2), dir(2, 1)).Set(keys.Entry(1, "d"), "\x00\x00\x00\x02")); got != c.want+92 {
			t.Errorf("%q with a directory: %d", c.value, got)
		}
	}
}

// P23.1: what is no inode, or no key, adds nothing.
func TestOther(t *testing.T) {
	good := node.Put(node.Root())
	for _, value := range []string{"", "x", good[:12], good + "\x00", good + good, file(0, 1), file(1001, 1), file(1, 4097), file(1, math.MaxUint32), dir(1, 1), strings.Repeat("\x00", 13), strings.Repeat("\xff", 13), "\x03" + good[1:], node.Put(api.Inode{Kind: api.Dir, Links: 2, Size: 1})} {
		if n := Tree(of(keys.Inode(2), value)); n != 50 {
			t.Errorf("%q: %d", value, n)
		}
	}
	inode, entry := keys.Inode(2), keys.Entry(2, "")
	for _, key := range []string{"", "I", "E", "D", "Z", "\xff", inode[:4], inode + "\x00", "J" + inode[1:], "i" + inode[1:], "D" + inode[1:], entry, entry + strings.Repeat("n", 33), "F" + entry[1:] + "n", "e" + entry[1:] + "n", strings.Repeat("E", 1000), "\x00" + inode, "\x00" + entry + "n"} {
		for _, value := range []string{"", good, file(1, 4096), "\x00\x00\x00\x02"} {
			if n := Tree(of(key, value)); n != 50 {
				t.Errorf("%q, %q: %d", key, value, n)
			}
		}
	}
}

// chance answers numbers that look like chance, the same ones each time.
func chance(x uint32) func(n int) int {
	return func(n int) int {
		x = x*1664525 + 1013904223
		return int(x>>8) % n
	}
}

// some is a tree of anything; and what each of its keys adds to the price, by the chapter's words.
func some(next func(n int) int) (*tree.Tree, map[string]int) {
	numbers := []uint32{0, 1, 1, 2, 3, 4, 255, 256, 65536, math.MaxUint32}
	t, adds := tree.New(), map[string]int{}
	for range next(60) {
		ino, size := numbers[next(len(numbers))], []int{0, 1, 63, 64, 65, 500, 4096}[next(7)]
		key, value, add := keys.Inode(ino), file(uint32(1+next(3)), uint32(size)), 50+(size+63)/64*103
		switch next(8) {
		case 0:
			value, add = dir(uint32(2+next(1000)), numbers[next(len(numbers))]), 50
		case 1:
			value, add = value[:next(13)], 0
		case 2:
			value, add = []string{dir(1, 1), file(0, 5), file(1, 4097)}[next(3)], 0
		case 3, 4:
			name := strings.Repeat(string([]byte{byte(next(256))}), 1+next(32))
			key, add = keys.Entry(ino, name), 41+len(name)
		case 5:
			key, value, add = keys.Block(ino, next(70)), strings.Repeat("x", next(64)), 0
		case 6:
			key, add = key[:next(5)]+strings.Repeat("z", next(3)*20), 0
		}
		if key == keys.Inode(1) && add > 0 {
			add -= 50
		}
		t, adds[key] = t.Set(key, value), add
	}
	return t, adds
}

// P23.1: the price of a tree of anything is what all its keys add to the root's; a tree that has a key no more has its price no more.
func TestTreeOfAnything(t *testing.T) {
	seen := map[int]bool{}
	for seed := range 3000 {
		b, adds := some(chance(uint32(seed)))
		want := 50
		for _, n := range adds {
			want += n
		}
		for _, key := range slices.Sorted(maps.Keys(adds)) {
			if got := Tree(b); got != want {
				t.Fatalf("tree %d: %d, not %d", seed, got, want)
			}
			seen[want] = true
			b, want = b.Cut(key), want-adds[key]
		}
		if got := Tree(b); b.Len() != 0 || got != 50 {
			t.Fatalf("tree %d: %d keys, %d", seed, b.Len(), got)
		}
	}
	if len(seen) < 1000 {
		t.Errorf("only %d prices", len(seen))
	}
}

// pairs are writes whose price is so many bytes, which is none, or at least 32.
func pairs(price int) []api.Pair {
	var l []api.Pair
	for price > 0 {
		size := min(price, 144)
		if left := price - size; left > 0 && left < 32 {
			size -= 32
		}
		key := strings.Repeat("k", min(size-32, 48))
		l = append(l, api.Pair{Key: key, Value: strings.Repeat("v", size-32-len(key))})
		price -= size
	}
	return l
}

// geometries are some that may be, the least and the greatest ones among them.
func geometries() []api.Geometry {
	var l []api.Geometry
	for _, sectors := range []int{6, 7, 8, 13, 32, 63, 64} {
		for _, size := range []int{512, 513, 700, 1024, 2048, 4095, 4096} {
			l = append(l, api.Geometry{Sectors: sectors, Size: size})
		}
	}
	return l
}

// P23.1: what is just the capacity fits, and one byte more doesn't: whether the tree has it or the writes do.
func TestFits(t *testing.T) {
	if !Fits(geometries()[0], nil, pairs(670)) || Fits(geometries()[0], nil, pairs(671)) {
		t.Error("720 bytes are the capacity of six sectors of 512 bytes")
	}
	for _, g := range geometries() {
		capacity := store.Capacity(g)
		for i, b := range []*tree.Tree{nil, of(keys.Inode(1), dir(2, 1)), of(keys.Inode(2), file(1, 70), keys.Entry(1, "f"), "\x00\x00\x00\x02")} {
			left := capacity - Tree(b)
			for _, c := range []struct {
				price int
				want  bool
			}{{0, true}, {32, true}, {left - 33, true}, {left - 1, true}, {left, true}, {left + 1, false}, {left + 50, false}, {capacity, false}, {2 * capacity, false}} {
				l := pairs(c.price)
				if n := store.Price(l); n != c.price {
					t.Fatalf("%d bytes, not %d", n, c.price)
				}
				if Fits(g, b, l) != c.want {
					t.Errorf("%v, tree %d, %d bytes of %d left", g, i, c.price, left)
				}
			}
		}
		full := tree.New()
		for n := range uint32((capacity - 50) / 50) {
			full = full.Set(keys.Inode(n+2), dir(2, 1))
		}
		if !Fits(g, full, nil) || Fits(g, full.Set(keys.Inode(1<<20), dir(2, 1)), nil) {
			t.Errorf("%v: %d directories", g, full.Len())
		}
	}
}

// P23.1: writes are reckoned as pairs, those that go too, whatever is there of their keys; those that are too long for an item have no price (13: Price).
func TestFitsWrites(t *testing.T) {
	g := geometries()[0]
	b := of(keys.Inode(2), file(1, 0))
	for i, c := range []struct {
		l    []api.Pair
		want bool
	}{
		{nil, true},
		{[]api.Pair{}, true},
		{make([]api.Pair, 19), true},
		{make([]api.Pair, 20), false},
		{slices.Repeat([]api.Pair{{Gone: true}}, 19), true},
		{slices.Repeat([]api.Pair{{Gone: true}}, 20), false},
		{slices.Repeat([]api.Pair{{Key: keys.Inode(2), Value: file(1, 0)}}, 12), true},
		{slices.Repeat([]api.Pair{{Key: keys.Inode(2), Value: file(1, 0)}}, 13), false},
		{slices.Repeat([]api.Pair{{Key: keys.Inode(2), Gone: true}}, 16), true},
		{slices.Repeat([]api.Pair{{Key: keys.Inode(2), Gone: true}}, 17), false},
		{slices.Repeat([]api.Pair{{Key: strings.Repeat("k", 49)}, {Value: strings.Repeat("v", 65)}}, 1000), true},
	} {
		if Fits(g, b, c.l) != c.want {
			t.Errorf("%d: %v", i, !c.want)
		}
	}
}

// P23.1: nothing fits where the geometry may not be, not even nothing.
func TestFitsNowhere(t *testing.T) {
	for _, g := range []api.Geometry{{}, {Sectors: 5, Size: 512}, {Sectors: 65, Size: 512}, {Sectors: 6, Size: 511}, {Sectors: 6, Size: 4097}, {Sectors: 6}, {Size: 512}, {Sectors: -6, Size: -512}, {Sectors: math.MaxInt, Size: math.MaxInt}, {Sectors: math.MinInt, Size: math.MinInt}, {Sectors: math.MinInt, Size: 4096}, {Sectors: 64, Size: math.MaxInt}} {
		for _, b := range []*tree.Tree{nil, tree.New()} {
			if Fits(g, b, nil) || Fits(g, b, pairs(100)) {
				t.Errorf("%v", g)
			}
		}
	}
}

// P23.1 (R3): what is handed in stays as it is; (R5) what is asked again is answered again.
func TestNothingChanges(t *testing.T) {
	b, _ := some(chance(77))
	l := pairs(500)
	was, keysWere := slices.Clone(l), b.Range("", "\xff\xff")
	price, fits := Tree(b), Fits(geometries()[9], b, l)
	for range 3 {
		if Tree(b) != price || Fits(geometries()[9], b, l) != fits {
			t.Error("another answer")
		}
	}
	if !slices.Equal(l, was) || !slices.Equal(b.Range("", "\xff\xff"), keysWere) {
		t.Error("changed")
	}
}
