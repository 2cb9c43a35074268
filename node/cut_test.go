package node

import (
	"math"
	"slices"
	"testing"
)

// P15.1: how many blocks so many bytes need: one more at each first byte of a block.
func TestBlocks(t *testing.T) {
	want := 0
	for size := range 5000 {
		if size%64 == 1 {
			want++
		}
		if got := Blocks(size); got != want {
			t.Errorf("Blocks(%d) = %d", size, got)
		}
	}
}

// P15.1: numbers of bytes that are no file's, too.
func TestBlocksOfAnyNumber(t *testing.T) {
	for _, c := range []struct{ size, want int }{
		{-1, 0},
		{-63, 0},
		{-64, 0},
		{-65, 0},
		{-4096, 0},
		{math.MinInt32, 0},
		{math.MinInt + 1, 0},
		{math.MinInt, 0},
		{1 << 20, 1 << 14},
		{1<<20 + 1, 1<<14 + 1},
		{1 << 62, 1 << 56},
		{1<<62 + 1, 1<<56 + 1},
		{math.MaxInt - 63, 1<<57 - 1},
		{math.MaxInt - 62, 1 << 57},
		{math.MaxInt, 1 << 57},
	} {
		if got := Blocks(c.size); got != c.want {
			t.Errorf("Blocks(%d) = %d", c.size, got)
		}
	}
}

// P15.1: pieces one by one, the chapter's example among them.
func TestCut(t *testing.T) {
	for _, c := range []struct {
		from, n int
		want    [][3]int
	}{
		{60, 10, [][3]int{{0, 60, 4}, {1, 0, 6}}},
		{0, 1, [][3]int{{0, 0, 1}}},
		{0, 64, [][3]int{{0, 0, 64}}},
		{0, 65, [][3]int{{0, 0, 64}, {1, 0, 1}}},
		{63, 1, [][3]int{{0, 63, 1}}},
		{63, 2, [][3]int{{0, 63, 1}, {1, 0, 1}}},
		{64, 1, [][3]int{{1, 0, 1}}},
		{64, 128, [][3]int{{1, 0, 64}, {2, 0, 64}}},
		{10, 20, [][3]int{{0, 10, 20}}},
		{100, 100, [][3]int{{1, 36, 28}, {2, 0, 64}, {3, 0, 8}}},
		{4000, 96, [][3]int{{62, 32, 32}, {63, 0, 64}}},
		{4095, 1, [][3]int{{63, 63, 1}}},
	} {
		if got := Cut(c.from, c.n); !slices.Equal(got, c.want) {
			t.Errorf("Cut(%d, %d) = %v", c.from, c.n, got)
		}
	}
}

// P15.1: none are cut from below 0, of no bytes, and of those that aren't all among the first 4096.
func TestCutNone(t *testing.T) {
	for _, c := range []struct{ from, n int }{
		{-1, 1},
		{-1, 5},
		{-64, 64},
		{-4096, 4096},
		{math.MinInt, 1},
		{math.MinInt, math.MaxInt},
		{math.MinInt, math.MinInt},
		{math.MinInt + 4096, math.MaxInt},
		{-1, math.MinInt},
		{0, 0},
		{5, 0},
		{5, -1},
		{5, -5},
		{64, -64},
		{0, math.MinInt},
		{4096, math.MinInt},
		{math.MaxInt, math.MinInt},
		{4096, 0},
		{4097, 0},
		{4097, -1},
		{0, 4097},
		{1, 4096},
		{64, 4033},
		{4000, 97},
		{4095, 2},
		{4096, 1},
		{4097, 1},
		{1 << 32, 1},
		{0, 1 << 32},
		{0, math.MaxInt},
		{1, math.MaxInt},
		{4096, math.MaxInt},
		{math.MaxInt, 1},
		{math.MaxInt - 1, 1},
		{math.MaxInt, math.MaxInt},
	} {
		if got := Cut(c.from, c.n); len(got) != 0 {
			t.Errorf("Cut(%d, %d) = %v", c.from, c.n, got)
		}
	}
}

// joined tells whether pieces are the bytes from one up to another, each once, and at most one of each block.
func joined(pieces [][3]int, from, to int) bool {
	for i, p := range pieces {
		block, first, many := p[0], p[1], p[2]
		if first < 0 || many <= 0 || first+many > 64 || 64*block+first != from {
			return false
		}
		if i > 0 && block != pieces[i-1][0]+1 {
			return false
		}
		from += many
	}
	return from == to
}

// P15.3: pieces, one behind the other, are all the bytes, each once, whatever is cut of a file.
func TestJoined(t *testing.T) {
	for from := range 4096 {
		for n := 1; n <= 4096-from; n += 1 + n/50 {
			if pieces := Cut(from, n); !joined(pieces, from, from+n) {
				t.Fatalf("Cut(%d, %d) = %v", from, n, pieces)
			}
		}
		if pieces := Cut(from, 4096-from); !joined(pieces, from, 4096) {
			t.Fatalf("Cut(%d, %d) = %v", from, 4096-from, pieces)
		}
	}
}

// P15.3: of all of a file there are as many pieces as it has blocks.
func TestCutAll(t *testing.T) {
	for n := 1; n <= 4096; n++ {
		if pieces := Cut(0, n); len(pieces) != Blocks(n) || !joined(pieces, 0, n) {
			t.Errorf("Cut(0, %d) = %v", n, pieces)
		}
	}
}

// P15.1 (R3): pieces that were answered are new memory.
func TestCutNew(t *testing.T) {
	pieces := Cut(60, 10)
	pieces[0] = [3]int{7, 7, 7}
	_ = append(pieces[:0], [3]int{8, 8, 8})
	if again := Cut(60, 10); !slices.Equal(again, [][3]int{{0, 60, 4}, {1, 0, 6}}) {
		t.Errorf("%v", again)
	}
}
