package scan

import (
	"bytes"
	"encoding/binary"
	"hash/adler32"
	"testing"

	"flint/api"
	"flint/head"
	"flint/place"
	"flint/rec"
	"flint/ring"
)

// chance answers numbers below n, the same ones in each run.
func chance(seed uint32) func(n int) int {
	x := seed
	return func(n int) int {
		x = x*1664525 + 1013904223
		return int(x>>8) % n
	}
}

// isBlank tells whether all bytes are 255.
func isBlank(b []byte) bool {
	return bytes.Count(b, []byte{255}) == len(b)
}

// recordAt is the record in a whole frame that stands ahead of all else, and how many bytes the frame has; false, if there is none.
func recordAt(b []byte) ([]byte, int, bool) {
	if len(b) < 8 {
		return nil, 0, false
	}
	n := int(binary.BigEndian.Uint16(b[1:]))
	if n+8 > len(b) || b[n+7] != 0 {
		return nil, 0, false
	}
	summed := append([]byte{b[1], b[2]}, b[7:n+7]...)
	return b[7 : n+7], n + 8, adler32.Checksum(summed) == binary.BigEndian.Uint32(b[3:])
}

// reckoned is what is found in a live sector's bytes, by the chapter's words.
func reckoned(sector int, b []byte) Sector {
	s := Sector{Class: api.Live, End: 8}
	for {
		rest := b[s.End:]
		if isBlank(rest) {
			s.Full = len(rest) == 0
			return s
		}
		record, size, whole := recordAt(rest)
		obsolete := rest[0] == 31 || rest[0] == 95
		if !whole || !obsolete && rest[0] != 127 && rest[0] != 63 {
			s.Full = true
			return s
		}
		if !obsolete {
			x, err := ring.Get(record)
			if err != api.OK {
				s.Full = true
				return s
			}
			s.Found = append(s.Found, api.Found{At: complex(float64(sector), float64(s.End)), Size: size, Settled: rest[0] == 63, Item: x})
		}
		s.End += size
	}
}

// part is any part of a sector: mostly a record, of any state and content, maybe spoilt.
func part(t *testing.T, next func(n int) int) []byte {
	flags := []byte{flagsWritten, flagsSettled, flagsObsolete, flagsBoth}[next(4)]
	f := frame(flags, writing(t, item(next(300))))
	switch next(60) {
	case 0:
		f[next(len(f))] ^= 1 << next(8)
	case 1:
		f = f[:next(len(f))]
	case 2:
		f = bytes.Repeat([]byte{255}, next(50))
	case 3:
		f = frame(flags, []byte(text(next(200))))
	case 4:
		f[0] = byte(next(256))
	case 5, 6, 7, 8:
		f = filler(8 + next(100))
	}
	return f
}

// anySector is a live one with any parts, up to its last byte at most.
func anySector(t *testing.T, g api.Geometry, next func(n int) int) []byte {
	var parts []byte
	for room := next(g.Size); len(parts) < room; {
		parts = append(parts, part(t, next)...)
	}
	left := g.Size - api.HeadSize - len(parts)
	if left < 0 || next(4) == 0 && left >= 8 {
		parts = parts[:min(len(parts), g.Size-api.HeadSize)]
	}
	if left >= 8 && next(4) == 0 {
		parts = append(parts, filler(left)...)
	}
	return live(g, parts)
}

// P8.1: in any sector is found what the chapter's words say.
func TestAnySector(t *testing.T) {
	next := chance(1)
	found, full, room, filled := 0, 0, 0, 0
	for n := range 30000 {
		g := some()[next(len(some()))]
		b := anySector(t, g, next)
		want := reckoned(n%g.Sectors, b)
		is(t, "any", g, n%g.Sectors, b, want)
		found += len(want.Found)
		switch {
		case want.End == g.Size:
			filled++
		case want.Full:
			full++
		default:
			room++
		}
		if t.Failed() {
			break
		}
	}
	if found < 60000 || full < 1000 || room < 1000 || filled < 1000 {
		t.Errorf("only %d items in %d torn, %d filled and %d other sectors", found, full, filled, room)
	}
}

// P8.2: what is found stands in order, none in another one, between the head and the end.
func TestBehindEachOther(t *testing.T) {
	next := chance(2)
	for n := range 10000 {
		g := some()[next(len(some()))]
		b := anySector(t, g, next)
		sector := n % g.Sectors
		s := Of(g, sector, b)
		end := place.Of(sector, api.HeadSize)
		for _, f := range s.Found {
			if place.Compare(end, f.At) > 0 || f.Size != ring.Size(f.Item.Key, f.Item.Value) {
				t.Fatalf("%+v stands ahead of %v", f, end)
			}
			_, offset, _ := place.Parts(f.At)
			if _, record, behind := rec.Class(b, offset); behind != offset+f.Size || !bytes.Equal(record, writing(t, f.Item)) {
				t.Fatalf("%+v doesn't stand at its place", f)
			}
			end = place.On(f.At, f.Size)
		}
		if place.Compare(end, place.Of(sector, s.End)) > 0 || s.End > g.Size || s.Class != api.Live {
			t.Fatalf("the end of %+v stands ahead of %v", s, end)
		}
	}
}

// P8.2: an item that stands within a record isn't found.
func TestWithin(t *testing.T) {
	inner := frame(flagsWritten, writing(t, item(1)))
	x := item(2)
	x.Value = string(inner)
	outer := frame(flagsSettled, writing(t, x))
	is(t, "within a value", small, 1, live(small, outer), Sector{Class: api.Live, End: 8 + len(outer), Found: []api.Found{foundAt(1, 8, true, x)}})
	outer = frame(flagsObsolete, inner)
	is(t, "within an obsolete one", small, 1, live(small, outer), Sector{Class: api.Live, End: 8 + len(outer)})
	outer = frame(flagsWritten, inner)
	is(t, "within what is no item", small, 1, live(small, outer), Sector{Class: api.Live, End: 8, Full: true})
	h := head.Of(small)
	is(t, "ahead of a head", small, 1, append(bytes.Clone(inner), live(small)[len(inner):]...), Sector{Class: api.Dirty, Full: true})
	is(t, "behind two heads", small, 1, live(small, h[:], inner), Sector{Class: api.Live, End: 8, Full: true})
}

// P8.1: every call ends and none panics, whatever stands in a sector.
func TestAnyBytes(t *testing.T) {
	next := chance(3)
	for range 20000 {
		g := some()[next(len(some()))]
		b := live(g)
		for i := range next(60) {
			b[8+i] = byte(next(256))
		}
		if is(t, "any bytes", g, 1, b, reckoned(1, b)); t.Failed() {
			return
		}
		b = b[:next(len(b)+1)]
		b = b[next(len(b)+1):]
		if len(b) != g.Size {
			is(t, "other numbers of bytes", g, next(99)-9, b, Sector{Class: api.Dirty, Full: true})
		}
	}
}
