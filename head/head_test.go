package head

import (
	"bytes"
	"encoding/binary"
	"hash/adler32"
	"math"
	"slices"
	"testing"

	"flint/api"
)

// small is the smallest geometry, great the greatest.
var (
	small = api.Geometry{Sectors: 6, Size: 512}
	great = api.Geometry{Sectors: 64, Size: 4096}
)

// some are geometries that may be, at the edges and between them.
func some() []api.Geometry {
	return []api.Geometry{small, great, {Sectors: 6, Size: 4096}, {Sectors: 64, Size: 512}, {Sectors: 7, Size: 513}, {Sectors: 8, Size: 600}, {Sectors: 33, Size: 1000}, {Sectors: 63, Size: 4095}}
}

// wrong are geometries that may not be, also such whose lowest two bytes are those of one that may.
func wrong() []api.Geometry {
	return []api.Geometry{
		{},
		{Sectors: 5, Size: 512},
		{Sectors: 65, Size: 512},
		{Sectors: 6, Size: 511},
		{Sectors: 6, Size: 4097},
		{Sectors: 0, Size: 512},
		{Sectors: 6, Size: 0},
		{Sectors: -6, Size: 512},
		{Sectors: 6, Size: -512},
		{Sectors: 6, Size: 8},
		{Sectors: 6, Size: 7},
		{Sectors: 512, Size: 6},
		{Sectors: 1<<16 + 6, Size: 512},
		{Sectors: 6, Size: 1<<16 + 512},
		{Sectors: 1<<32 + 6, Size: 1<<32 + 512},
		{Sectors: math.MinInt, Size: math.MinInt},
		{Sectors: math.MaxInt, Size: math.MaxInt},
	}
}

// reckoned is what Of is to answer, by the chapter's words and with others' sum.
func reckoned(g api.Geometry) [8]byte {
	summed := binary.BigEndian.AppendUint16([]byte("TxNR"), uint16(g.Sectors))
	summed = binary.BigEndian.AppendUint16(summed, uint16(g.Size))
	return [8]byte(binary.BigEndian.AppendUint32([]byte("TxNR"), adler32.Checksum(summed)))
}

// blankSector is a sector to which nothing was written.
func blankSector(g api.Geometry) []byte {
	return bytes.Repeat([]byte{255}, g.Size)
}

// sector is a blank one but for the front.
func sector(g api.Geometry, front []byte) []byte {
	b := blankSector(g)
	copy(b, front)
	return b
}

// liveSector is a sector with its head, and nothing behind it.
func liveSector(g api.Geometry) []byte {
	h := Of(g)
	return sector(g, h[:])
}

// is fails the test, if a sector's bytes are something else.
func is(t *testing.T, what string, g api.Geometry, b []byte, want int) {
	t.Helper()
	if got := Class(g, b); got != want {
		t.Errorf("%s of %v: %d, not %d", what, g, got, want)
	}
}

// P5.1: the heads of known geometries.
func TestOfKnown(t *testing.T) {
	for _, c := range []struct {
		g    api.Geometry
		want string
	}{
		{small, "TxNR\x09\x74\x01\x75"},
		{great, "TxNR\x0a\x3e\x01\xbd"},
		{api.Geometry{Sectors: 8, Size: 600}, "TxNR\x09\xd2\x01\xcf"},
		{api.Geometry{Sectors: 33, Size: 1000}, "TxNR\x0a\xaf\x02\x79"},
		{api.Geometry{Sectors: 63, Size: 4095}, "TxNR\x0b\x38\x02\xba"},
	} {
		if got := Of(c.g); string(got[:]) != c.want {
			t.Errorf("Of(%v) = %q, not %q", c.g, got, c.want)
		}
	}
}

// P5.1: the head of each geometry that may be.
func TestOfAll(t *testing.T) {
	for sectors := api.MinSectors; sectors <= api.MaxSectors; sectors++ {
		for size := api.MinSize; size <= api.MaxSize; size++ {
			g := api.Geometry{Sectors: sectors, Size: size}
			if got, want := Of(g), reckoned(g); got != want {
				t.Fatalf("Of(%v) = %q, not %q", g, got, want)
			}
		}
	}
}

// P5.1: eight bytes 0 of a geometry that may not be.
func TestOfWrong(t *testing.T) {
	for _, g := range wrong() {
		if got := Of(g); got != [8]byte{} {
			t.Errorf("Of(%v) = %q", g, got)
		}
	}
}

// P5.1: Blank are 255 alone, as many as a sector has; a byte elsewhere in it, however far behind, and it is Dirty.
func TestBlank(t *testing.T) {
	for _, g := range some() {
		b := blankSector(g)
		is(t, "a blank sector", g, b, api.Blank)
		for i := range b {
			for _, x := range []byte{0, 127, 254} {
				b[i] = x
				is(t, "a byte that is another one", g, b, api.Dirty)
			}
			b[i] = 255
		}
	}
}

// P5.1: Live are bytes that begin with the head, whatever stands behind it; among them the chapter's example.
func TestLive(t *testing.T) {
	for _, g := range some() {
		b := liveSector(g)
		is(t, "a head and 255 behind", g, b, api.Live)
		for i := api.HeadSize; i < g.Size; i++ {
			b[i] = byte(i * 7)
		}
		is(t, "a head and bytes behind", g, b, api.Live)
		clear(b[api.HeadSize:])
		is(t, "a head and 0 behind", g, b, api.Live)
		copy(b[api.HeadSize:], b[:api.HeadSize])
		is(t, "two heads", g, b, api.Live)
		copy(b[api.HeadSize:], Death())
		is(t, "a death behind the head", g, b, api.Live)
	}
}

// P5.1: what is neither blank nor begins with the head is Dirty.
func TestDirty(t *testing.T) {
	for _, g := range some() {
		h := Of(g)
		is(t, "zeros", g, make([]byte, g.Size), api.Dirty)
		is(t, "a dead head", g, sector(g, Death()), api.Dirty)
		is(t, "letters alone", g, sector(g, []byte("TxNR")), api.Dirty)
		is(t, "a head a byte further", g, sector(g, append([]byte{255}, h[:]...)), api.Dirty)
		is(t, "a head without its first byte", g, sector(g, h[1:]), api.Dirty)
		is(t, "no bytes of a head", g, sector(g, []byte("12345678")), api.Dirty)
		behind := blankSector(g)
		copy(behind[g.Size-api.HeadSize:], h[:])
		is(t, "a head at the end", g, behind, api.Dirty)
		turned := slices.Clone(h[:])
		turned[0], turned[1] = turned[1], turned[0]
		is(t, "two letters turned round", g, sector(g, turned), api.Dirty)
		low := append([]byte("TxNR"), h[7], h[6], h[5], h[4])
		is(t, "the sum's lowest byte first", g, sector(g, low), api.Dirty)
	}
}

// P5.1: a head with one byte that is another one is Dirty.
func TestDirtyByOneByte(t *testing.T) {
	for _, g := range some() {
		for i := range api.HeadSize {
			b := liveSector(g)
			for range 255 {
				b[i]++
				is(t, "a head with one byte that is another one", g, b, api.Dirty)
			}
		}
	}
}

// P5.1: the head of a geometry of the same size, but of other sectors, is none of this one.
func TestDirtyByOtherHead(t *testing.T) {
	for _, size := range []int{512, 600, 4096} {
		for a := api.MinSectors; a <= api.MaxSectors; a++ {
			b := liveSector(api.Geometry{Sectors: a, Size: size})
			for other := api.MinSectors; other <= api.MaxSectors; other++ {
				want := api.Dirty
				if other == a {
					want = api.Live
				}
				is(t, "a head", api.Geometry{Sectors: other, Size: size}, b, want)
			}
		}
	}
}

// P5.1: bytes that aren't Size are Dirty, whether they are blank or begin with the head.
func TestClassOfOtherSize(t *testing.T) {
	for _, g := range some() {
		h := Of(g)
		for _, n := range []int{0, 1, 7, 8, 9, g.Size / 2, g.Size - 1, g.Size + 1, 2 * g.Size} {
			blanks := bytes.Repeat([]byte{255}, n)
			is(t, "fewer or more blank bytes", g, blanks, api.Dirty)
			copy(blanks, h[:])
			is(t, "a head with fewer or more bytes", g, blanks, api.Dirty)
		}
		is(t, "nil", g, nil, api.Dirty)
		is(t, "the head alone", g, h[:], api.Dirty)
		is(t, "a sector's bytes of which not all are handed in", g, liveSector(g)[:g.Size-1], api.Dirty)
	}
}

// P5.1: nothing but Dirty, if the geometry may not be: neither eight bytes 0 nor bytes 255.
func TestClassOfWrongGeometry(t *testing.T) {
	for _, g := range wrong() {
		n := min(max(g.Size, 0), 1<<17)
		h, zeros := reckoned(g), make([]byte, n)
		is(t, "nil", g, nil, api.Dirty)
		is(t, "a dead head alone", g, Death(), api.Dirty)
		is(t, "zeros", g, zeros, api.Dirty)
		is(t, "blank bytes", g, bytes.Repeat([]byte{255}, n), api.Dirty)
		copy(zeros, h[:])
		is(t, "what its head would be", g, zeros, api.Dirty)
		is(t, "the smallest one's sector", g, liveSector(small), api.Dirty)
		is(t, "the greatest one's sector", g, liveSector(great), api.Dirty)
	}
}

// P5.1: the death of a head is as long as that, and its bytes are 0.
func TestDeath(t *testing.T) {
	if got := Death(); !bytes.Equal(got, make([]byte, 8)) {
		t.Errorf("Death() = %v", got)
	}
}

// P5.1: the least and the greatest of numbers, wherever they stand.
func TestAges(t *testing.T) {
	for _, c := range []struct {
		wear        []int
		least, most int
	}{
		{nil, 0, 0},
		{[]int{}, 0, 0},
		{[]int{0}, 0, 0},
		{[]int{5}, 5, 5},
		{[]int{-5}, -5, -5},
		{[]int{1, 2, 3}, 1, 3},
		{[]int{3, 2, 1}, 1, 3},
		{[]int{2, 3, 1}, 1, 3},
		{[]int{2, 1, 3, 2}, 1, 3},
		{[]int{4, 4, 4}, 4, 4},
		{[]int{7, 9}, 7, 9},
		{[]int{-9, -7}, -9, -7},
		{[]int{3, -1, 7}, -1, 7},
		{[]int{0, 6}, 0, 6},
		{[]int{-6, 0}, -6, 0},
		{[]int{math.MaxInt, 0, math.MinInt}, math.MinInt, math.MaxInt},
		{[]int{math.MaxInt}, math.MaxInt, math.MaxInt},
		{[]int{math.MinInt}, math.MinInt, math.MinInt},
	} {
		if least, most := Ages(c.wear); least != c.least || most != c.most {
			t.Errorf("Ages(%v) = %d, %d, not %d, %d", c.wear, least, most, c.least, c.most)
		}
	}
	if least, most := Ages([]int{1, 9, 5}[2:]); least != 5 || most != 5 {
		t.Errorf("Ages of a piece = %d, %d", least, most)
	}
}

// P5.1, R3: what is handed in isn't changed, and what is answered is new memory.
func TestShared(t *testing.T) {
	b := liveSector(small)
	ahead := bytes.Clone(b)
	if Class(small, b); !bytes.Equal(b, ahead) {
		t.Error("Class changed the bytes")
	}
	wear := []int{3, 1, 2}
	if Ages(wear); !slices.Equal(wear, []int{3, 1, 2}) {
		t.Errorf("Ages changed the numbers to %v", wear)
	}
	first := Death()
	first[0] = 9
	if got := Death(); !bytes.Equal(got, make([]byte, 8)) {
		t.Errorf("Death is shared: %v", got)
	}
	h := Of(small)
	h[0] = 0
	if got := Of(small); got != reckoned(small) {
		t.Errorf("Of is shared: %q", got)
	}
}

// P5.1, R5: what a call answers hangs on its arguments alone, not on those asked ahead.
func TestAskedAgain(t *testing.T) {
	for range 3 {
		for _, g := range some() {
			is(t, "a head", g, liveSector(g), api.Live)
			is(t, "a blank sector", g, blankSector(g), api.Blank)
			is(t, "a dead head", g, sector(g, Death()), api.Dirty)
		}
	}
}
