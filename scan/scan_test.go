package scan

import (
	"bytes"
	"encoding/binary"
	"hash/adler32"
	"math"
	"slices"
	"strings"
	"testing"

	"flint/api"
	"flint/head"
	"flint/ring"
)

// The flags of a record in its states.
const (
	flagsWritten  = 127
	flagsSettled  = 63
	flagsObsolete = 95
	flagsBoth     = 31
)

// small is the smallest geometry, great the greatest.
var (
	small = api.Geometry{Sectors: 6, Size: 512}
	great = api.Geometry{Sectors: 64, Size: 4096}
)

// some are geometries that may be, at the edges and between them.
func some() []api.Geometry {
	return []api.Geometry{small, great, {Sectors: 6, Size: 4096}, {Sectors: 64, Size: 512}, {Sectors: 7, Size: 513}, {Sectors: 33, Size: 1000}}
}

// wrong are geometries that may not be.
func wrong() []api.Geometry {
	return []api.Geometry{
		{}, {Sectors: 5, Size: 512}, {Sectors: 65, Size: 512}, {Sectors: 6, Size: 511}, {Sectors: 6, Size: 4097},
		{Sectors: 6, Size: 0}, {Sectors: 6, Size: 8}, {Sectors: -6, Size: 512}, {Sectors: 6, Size: -512},
		{Sectors: math.MinInt, Size: math.MinInt}, {Sectors: math.MaxInt, Size: math.MaxInt},
	}
}

// text is a text of n bytes, of all kinds.
func text(n int) string {
	b := make([]byte, n)
	for i := range b {
		b[i] = byte(i*37 + n + 250)
	}
	return string(b)
}

// item is one that may be; those of other numbers are others, of other sizes.
func item(n int) api.Item {
	x := api.Item{Seq: uint64(n + 5), Ver: uint64(3 * n), Index: n % 3, Count: 3, Next: complex(float64(n%9), float64(n*7%600)), Key: text(n%48 + 1), Value: text(n * 5 % 65)}
	if n%4 == 3 {
		x.Gone, x.Value = true, ""
	}
	return x
}

// writing is an item's.
func writing(t *testing.T, x api.Item) []byte {
	t.Helper()
	b, err := ring.Put(x)
	if err != api.OK {
		t.Fatalf("Put(%+v): %v", x, err)
	}
	return b
}

// frame is a record's, with these flags.
func frame(flags byte, record []byte) []byte {
	summed := append(binary.BigEndian.AppendUint16(nil, uint16(len(record))), record...)
	f := append([]byte{flags}, summed[:2]...)
	f = binary.BigEndian.AppendUint32(f, adler32.Checksum(summed))
	return append(append(f, record...), 0)
}

// filler is an obsolete record whose frame has n bytes.
func filler(n int) []byte {
	return frame(flagsObsolete, make([]byte, n-8))
}

// live is a sector that begins with the head, these parts behind it, and blank behind them.
func live(g api.Geometry, parts ...[]byte) []byte {
	h := head.Of(g)
	b := append(h[:], slices.Concat(parts...)...)
	return append(b, bytes.Repeat([]byte{255}, g.Size-len(b))...)
}

// foundAt is an item that is found in a sector, so many bytes from its beginning.
func foundAt(sector, offset int, settled bool, x api.Item) api.Found {
	return api.Found{At: complex(float64(sector), float64(offset)), Size: 32 + len(x.Key) + len(x.Value), Settled: settled, Item: x}
}

// same tells whether two sectors are the same.
func same(a, b Sector) bool {
	return a.Class == b.Class && a.End == b.End && a.Full == b.Full && slices.Equal(a.Found, b.Found)
}

// is fails the test, if anything else is found in a sector's bytes.
func is(t *testing.T, what string, g api.Geometry, sector int, b []byte, want Sector) {
	t.Helper()
	if got := Of(g, sector, b); !same(got, want) {
		t.Errorf("%s: in sector %d of %v is found\n%+v, not\n%+v", what, sector, g, got, want)
	}
}

// P8.1: a live sector without records: its end is behind the head, it isn't full.
func TestLiveWithoutRecords(t *testing.T) {
	for _, g := range some() {
		is(t, "a head alone", g, 2, live(g), Sector{Class: api.Live, End: 8})
	}
}

// P8.1: a blank sector isn't full, a dirty one is; neither has an end, nor is anything found in it.
func TestNotLive(t *testing.T) {
	for _, g := range some() {
		is(t, "a blank one", g, 2, bytes.Repeat([]byte{255}, g.Size), Sector{Class: api.Blank})
		f := frame(flagsWritten, writing(t, item(1)))
		whole := live(g, f, f)
		for i := range api.HeadSize {
			for _, x := range []byte{0, 1, 255, whole[i] ^ 1} {
				b := slices.Clone(whole)
				if b[i] == x {
					continue
				}
				b[i] = x
				is(t, "one without its whole head", g, 2, b, Sector{Class: api.Dirty, Full: true})
			}
		}
		is(t, "a dead one", g, 2, append(make([]byte, api.HeadSize), whole[api.HeadSize:]...), Sector{Class: api.Dirty, Full: true})
		is(t, "one of bytes 0", g, 2, make([]byte, g.Size), Sector{Class: api.Dirty, Full: true})
		for i := api.HeadSize; i < g.Size; i++ {
			b := bytes.Repeat([]byte{255}, g.Size)
			b[i] = 254
			is(t, "one bit", g, 2, b, Sector{Class: api.Dirty, Full: true})
		}
	}
}

// P8.1: a geometry that may not be, another one's head, and other numbers of bytes make a sector dirty.
func TestWrongBytes(t *testing.T) {
	f := frame(flagsWritten, writing(t, item(1)))
	dirty := Sector{Class: api.Dirty, Full: true}
	for _, g := range wrong() {
		for _, b := range [][]byte{nil, {}, live(small, f), bytes.Repeat([]byte{255}, 512), make([]byte, 512), live(api.Geometry{Sectors: 6, Size: 513})} {
			is(t, "a wrong geometry", g, 2, b, dirty)
		}
	}
	for _, g := range some() {
		b := live(g, f)
		is(t, "nil", g, 2, nil, dirty)
		is(t, "none", g, 2, []byte{}, dirty)
		is(t, "a head alone, and nothing behind it", g, 2, b[:8], dirty)
		is(t, "part of a head", g, 2, b[:7], dirty)
		is(t, "one byte less", g, 2, b[:g.Size-1], dirty)
		is(t, "one byte less, that stands in the memory", g, 2, b[:g.Size-1:g.Size], dirty)
		is(t, "one byte more", g, 2, append(b[:g.Size:g.Size], 255), dirty)
		is(t, "twice as many", g, 2, append(b[:g.Size:g.Size], b...), dirty)
		other := api.Geometry{Sectors: g.Sectors ^ 1, Size: g.Size}
		is(t, "another one's head", g, 2, append(live(other)[:8], b[8:]...), dirty)
	}
}

// P8.1: written items are found, and settled ones, as such; of obsolete ones nothing is, but what is behind them.
func TestItems(t *testing.T) {
	a, b, c, d := item(0), item(3), item(10), item(2)
	sector := live(small,
		frame(flagsWritten, writing(t, a)), frame(flagsObsolete, writing(t, b)), frame(flagsSettled, writing(t, c)),
		frame(flagsBoth, writing(t, b)), frame(flagsWritten, writing(t, d)))
	gone := 32 + len(b.Key)
	second := 8 + 33 + gone
	third := second + 32 + 11 + 50 + gone
	end := third + 32 + 3 + 10
	is(t, "five of all states", small, 5, sector, Sector{Class: api.Live, End: end, Found: []api.Found{
		foundAt(5, 8, false, a), foundAt(5, second, true, c), foundAt(5, third, false, d),
	}})
}

// P8.1: each one item, with all sizes, in all states, as it was.
func TestEachItem(t *testing.T) {
	for _, g := range some() {
		for n := range 200 {
			x := item(n)
			if n == 199 {
				x = api.Item{Seq: math.MaxUint64, Ver: math.MaxUint64, Index: 254, Count: 255, Next: 254 + 65535i, Key: text(48), Value: text(64)}
			}
			w := writing(t, x)
			end := 8 + 8 + len(w)
			is(t, "a written one", g, 1, live(g, frame(flagsWritten, w)), Sector{Class: api.Live, End: end, Found: []api.Found{foundAt(1, 8, false, x)}})
			is(t, "a settled one", g, 1, live(g, frame(flagsSettled, w)), Sector{Class: api.Live, End: end, Found: []api.Found{foundAt(1, 8, true, x)}})
			is(t, "an obsolete one", g, 1, live(g, frame(flagsObsolete, w)), Sector{Class: api.Live, End: end})
			is(t, "a settled and obsolete one", g, 1, live(g, frame(flagsBoth, w)), Sector{Class: api.Live, End: end})
		}
	}
}

// P8.1: places are as layer 2's Of tells them, whatever the sector's number is.
func TestSectorNumbers(t *testing.T) {
	x := item(1)
	b := live(small, frame(flagsWritten, writing(t, x)))
	for _, n := range []int{0, 1, 5, 6, 63, 64, 254, 255, 256, 65536, math.MaxInt32} {
		is(t, "a number", small, n, b, Sector{Class: api.Live, End: 41 + 1 + 5, Found: []api.Found{foundAt(n, 8, false, x)}})
	}
	for _, n := range []int{-1, -2, math.MinInt32, math.MinInt, math.MaxInt32 + 1, 1 << 32, math.MaxInt} {
		nowhere := foundAt(0, 0, false, x)
		is(t, "no number", small, n, b, Sector{Class: api.Live, End: 41 + 1 + 5, Found: []api.Found{nowhere}})
		is(t, "no number of a blank one", small, n, bytes.Repeat([]byte{255}, 512), Sector{Class: api.Blank})
		is(t, "no number of a dirty one", small, n, nil, Sector{Class: api.Dirty, Full: true})
	}
}

// P8.1: it is full, if no byte is left, and isn't, if there is one.
func TestRoomLeft(t *testing.T) {
	x := item(4)
	w := writing(t, x)
	for _, g := range some() {
		for left := range 60 {
			fill := g.Size - 8 - 8 - len(w) - left
			found := []api.Found{foundAt(3, 8+fill, false, x)}
			is(t, "an item at the end", g, 3, live(g, filler(fill), frame(flagsWritten, w)), Sector{Class: api.Live, End: g.Size - left, Full: left == 0, Found: found})
			found = []api.Found{foundAt(3, 8, true, x)}
			is(t, "an obsolete one at the end", g, 3, live(g, frame(flagsSettled, w), filler(fill)), Sector{Class: api.Live, End: g.Size - left, Full: left == 0, Found: found})
		}
	}
}

// torn are bytes that are no record, though some of them nearly are.
func torn(t *testing.T) map[string][]byte {
	whole := frame(flagsWritten, writing(t, item(6)))
	l := map[string][]byte{
		"one byte of flags":      {flagsWritten},
		"one bit":                {254},
		"a byte 0":               {0},
		"a hole":                 append([]byte{255}, whole...),
		"a hole of a frame":      append(bytes.Repeat([]byte{255}, len(whole)), whole...),
		"all but the end":        whole[:len(whole)-1],
		"half":                   whole[:len(whole)/2],
		"a frame's beginning":    whole[:7],
		"the length of too much": {flagsWritten, 255, 254, 1, 2, 3, 4, 0},
	}
	for i := range whole {
		b := slices.Clone(whole)
		b[i] ^= 4
		l["a bit otherwise at "+string(rune('a'+i))] = b
	}
	for flags := range 256 {
		switch flags {
		case flagsWritten, flagsSettled, flagsObsolete, flagsBoth:
		default:
			l["the flags "+string(rune(flags))] = append([]byte{byte(flags)}, whole[1:]...)
		}
	}
	return l
}

// P8.1: at something torn it ends, and is full, whatever stands behind that.
func TestTornEnd(t *testing.T) {
	x := item(1)
	w := writing(t, x)
	behind := frame(flagsWritten, writing(t, item(9)))
	end := 8 + 8 + len(w)
	for what, b := range torn(t) {
		want := Sector{Class: api.Live, End: 8, Full: true}
		is(t, what, great, 3, live(great, b), want)
		is(t, what+", an item behind it", great, 3, live(great, b, behind), want)
		want = Sector{Class: api.Live, End: end, Full: true, Found: []api.Found{foundAt(3, 8, true, x)}}
		is(t, what+", an item ahead", great, 3, live(great, frame(flagsSettled, w), b), want)
		is(t, what+", items ahead and behind", great, 3, live(great, frame(flagsSettled, w), b, behind, behind), want)
		want.End += 20
		is(t, what+", an obsolete one ahead", great, 3, live(great, frame(flagsSettled, w), filler(20), b, behind), want)
	}
}

// noItems are records that are no items' writings.
func noItems(t *testing.T) map[string][]byte {
	w := writing(t, item(6))
	l := map[string][]byte{"nothing": nil, "a byte": {0}, "a text": []byte("TxNR"), "bytes 0": make([]byte, 24), "one byte more": append(slices.Clone(w), 0)}
	for n := range w {
		l["a writing of "+string(rune('a'+n))] = w[:n]
	}
	for what, change := range map[string]struct {
		at int
		to byte
	}{
		"an index beyond the count": {16, 3}, "a count of 0": {17, 0}, "no place": {18, 255},
		"gone, and a value": {21, 1}, "neither gone nor not": {21, 2}, "a long key": {22, 49}, "no key": {22, 0},
	} {
		b := slices.Clone(w)
		b[change.at] = change.to
		l[what] = b
	}
	b := slices.Clone(w)
	b[23+int(w[22])] = 65
	l["a long value"] = append(b, text(65)...)
	return l
}

// P8.1: a written or settled record that is no item is torn; an obsolete one is gone by, whatever it is.
func TestNoItems(t *testing.T) {
	x, y := item(1), item(9)
	ahead, behind := frame(flagsSettled, writing(t, x)), frame(flagsWritten, writing(t, y))
	end := 8 + len(ahead)
	for what, r := range noItems(t) {
		for _, flags := range []byte{flagsWritten, flagsSettled} {
			is(t, what, great, 3, live(great, frame(flags, r)), Sector{Class: api.Live, End: 8, Full: true})
			is(t, what+", between items", great, 3, live(great, ahead, frame(flags, r), behind), Sector{Class: api.Live, End: end, Full: true, Found: []api.Found{foundAt(3, 8, true, x)}})
			fill := filler(4096 - 8 - 8 - len(r))
			is(t, what+", up to the last byte", great, 3, live(great, fill, frame(flags, r)), Sector{Class: api.Live, End: 8 + len(fill), Full: true})
		}
		for _, flags := range []byte{flagsObsolete, flagsBoth} {
			at := end + 8 + len(r)
			is(t, what+", obsolete", great, 3, live(great, ahead, frame(flags, r), behind), Sector{Class: api.Live, End: at + len(behind), Found: []api.Found{foundAt(3, 8, true, x), foundAt(3, at, false, y)}})
		}
	}
}

// P8.1 (R3, R5): what is handed in stays as it was and isn't kept, the same is answered again, in new memory.
func TestBytesStay(t *testing.T) {
	b := live(small, frame(flagsWritten, writing(t, item(1))), frame(flagsSettled, writing(t, item(7))), []byte{3})
	was := slices.Clone(b)
	first, second := Of(small, 4, b), Of(small, 4, b)
	if !bytes.Equal(b, was) {
		t.Error("Of changed the bytes")
	}
	clear(b)
	_ = append(first.Found[:1], api.Found{})
	clear(first.Found)
	want := Sector{Class: api.Live, End: 8 + 32 + 2 + 5 + 32 + 8, Full: true, Found: []api.Found{foundAt(4, 8, false, item(1)), foundAt(4, 47, true, item(7))}}
	if !same(second, want) || strings.Compare(second.Found[1].Item.Key, text(8)) != 0 {
		t.Errorf("two answers share memory, or the bytes are kept: %+v", second)
	}
}
