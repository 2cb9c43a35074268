package price

import (
	"math"
	"strings"
	"testing"

	"flint/api"
	"flint/keys"
	"flint/node"
	"flint/store"
)

// P23.1: the prices that the chapter names, and its example.
func TestPrices(t *testing.T) {
	if n := Inode(); n != 50 {
		t.Errorf("Inode() = %d", n)
	}
	if n := Entry(""); n != 41 {
		t.Errorf("Entry of no name = %d", n)
	}
	if n := File(65) - Inode(); n != 206 {
		t.Errorf("the blocks of 65 bytes: %d", n)
	}
}

// P23.1: an entry's price grows by each byte of its name, whatever the name, one that may not be, too.
func TestEntry(t *testing.T) {
	for n := range 300 {
		for _, part := range []string{"a", "\x00", "/", ".", "\xff"} {
			if got := Entry(strings.Repeat(part, n)); got != 41+n {
				t.Errorf("Entry of %d times %q = %d", n, part, got)
			}
		}
	}
	for _, c := range []struct {
		name string
		want int
	}{
		{"abc", 44},
		{"äö", 45},
		{"\u20ac", 44},
		{"\U0001f600", 45},
		{strings.Repeat("n", api.MaxName), 73},
		{strings.Repeat("n", api.MaxName+1), 74},
		{strings.Repeat("n", 1<<20), 41 + 1<<20},
	} {
		if got := Entry(c.name); got != c.want {
			t.Errorf("Entry of %d bytes = %d", len(c.name), got)
		}
	}
}

// P23.1: a file's price grows at each first byte of a block.
func TestFile(t *testing.T) {
	want := 50
	for size := range 9000 {
		if size%64 == 1 {
			want += 103
		}
		if got := File(size); got != want {
			t.Errorf("File(%d) = %d, not %d", size, got, want)
		}
	}
}

// P23.1: of numbers of bytes that are no file's, too.
func TestFileOfAnyNumber(t *testing.T) {
	for _, c := range []struct{ size, want int }{
		{-1, 50},
		{-63, 50},
		{-64, 50},
		{-65, 50},
		{-4096, 50},
		{math.MinInt32, 50},
		{math.MinInt + 1, 50},
		{math.MinInt, 50},
		{4096, 6642},
		{4097, 6745},
		{1 << 20, 50 + 103<<14},
		{1<<20 + 1, 153 + 103<<14},
		{math.MaxInt32, 50 + 103<<25},
		{1 << 50, 50 + 103<<44},
	} {
		if got := File(c.size); got != c.want {
			t.Errorf("File(%d) = %d, not %d", c.size, got, c.want)
		}
	}
	// The price of so many bytes is no int: nothing is asked of it but that it is answered.
	for _, size := range []int{1 << 62, math.MaxInt - 63, math.MaxInt} {
		File(size)
	}
}

// P23.1: a write needs an inode, and each block that one of its bytes stands in.
func TestWrite(t *testing.T) {
	for from := range 4097 {
		want, block := 50, -1
		for n := range min(1100, 4097-from) {
			if n > 0 && (from+n-1)/64 != block {
				block = (from + n - 1) / 64
				want += 103
			}
			if got := Write(from, n); got != want {
				t.Fatalf("Write(%d, %d) = %d, not %d", from, n, got, want)
			}
		}
	}
	for _, c := range []struct{ from, n, want int }{
		{0, 64, 153},
		{63, 2, 256},
		{60, 10, 256},
		{64, 128, 256},
		{10, 1024, 1801},
		{0, 4096, 6642},
		{1, 4095, 6642},
		{64, 4032, 6539},
		{4095, 1, 153},
	} {
		if got := Write(c.from, c.n); got != c.want {
			t.Errorf("Write(%d, %d) = %d, not %d", c.from, c.n, got, c.want)
		}
	}
}

// P23.1: what touches no block, as it has no bytes, or as they don't all stand among those of a file, needs an inode at most.
func TestWriteOfNothing(t *testing.T) {
	for _, c := range [][2]int{
		{0, 0}, {5, 0}, {4096, 0}, {5000, 0}, {0, -1}, {5, -5}, {64, -64}, {-1, 0}, {-1, 1}, {-1, 2}, {-64, 128}, {-4096, 4096},
		{0, 4097}, {1, 4096}, {4095, 2}, {4096, 1}, {4097, 1}, {1 << 32, 1}, {0, 1 << 32},
		{math.MaxInt, 1}, {math.MaxInt, math.MaxInt}, {1, math.MaxInt}, {math.MaxInt - 63, 64}, {math.MaxInt, math.MinInt},
		{math.MinInt, 1}, {math.MinInt, math.MaxInt}, {math.MinInt, math.MinInt}, {0, math.MinInt}, {-1, math.MinInt},
	} {
		if got := Write(c[0], c[1]); got != 50 {
			t.Errorf("Write(%d, %d) = %d", c[0], c[1], got)
		}
	}
}

// P23.2: no item of an inode, of an entry or of a block has a greater frame than its price; the greatest ones have just that.
func TestFrames(t *testing.T) {
	frame := func(key, value string) int { return store.Price([]api.Pair{{Key: key, Value: value}}) }
	for _, ino := range []uint32{0, 1, 2, 255, 65536, math.MaxUint32} {
		for _, x := range []api.Inode{node.Root(), node.New(api.File, 0), {Kind: api.File, Links: 1000, Size: 4096}, {Kind: api.Dir, Links: math.MaxUint32, Parent: math.MaxUint32}} {
			if n := frame(keys.Inode(ino), node.Put(x)); n != Inode() {
				t.Errorf("inode %d, %v: %d", ino, x, n)
			}
		}
		for n := 1; n <= api.MaxName; n++ {
			name := strings.Repeat("\xff", n)
			if n := frame(keys.Entry(ino, name), "\xff\xff\xff\xff"); n != Entry(name) {
				t.Errorf("entry %d, %q: %d", ino, name, n)
			}
		}
		for _, which := range []int{0, 1, 63} {
			for n := 1; n <= api.Block; n++ {
				key := keys.Block(ino, which)
				if got := frame(key, strings.Repeat("\xff", n)); got > File(1)-Inode() || n == api.Block && got != File(64)-Inode() {
					t.Errorf("block %d, %d of %d bytes: %d", ino, which, n, got)
				}
			}
		}
	}
}
