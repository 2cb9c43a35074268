package scan

import (
	"bytes"
	"slices"
	"testing"

	"flint/api"
	"flint/head"
	"flint/nor"
)

// cutSector is the sector that the tests program and are cut off at.
const cutSector = 3

// masks are some that leave all kinds of bits.
var masks = []byte{0, 1, 2, 16, 32, 64, 96, 127, 128, 160, 192, 224, 254, 255}

// ahead are beginnings of a sector, each with another end.
func ahead(t *testing.T) [][]byte {
	written, settled := frame(flagsWritten, writing(t, item(1))), frame(flagsSettled, writing(t, item(2)))
	return [][]byte{
		live(small)[:8],
		slices.Concat(live(small)[:8], written),
		slices.Concat(live(small)[:8], settled, written, filler(30)),
		slices.Concat(live(small)[:8], filler(9), written, settled),
	}
}

// cutOff is what is found in a sector that begins so, when bytes are programmed behind that, and cut off.
func cutOff(t *testing.T, d *nor.Device, front, b []byte, n int, mask byte) (Sector, []byte) {
	t.Helper()
	d.Erase(cutSector)
	d.Program(cutSector, front)
	d.Cut(0, n, mask)
	if err := d.Program(complex(cutSector, float64(len(front))), b); err != api.ErrOff {
		t.Fatalf("a program that is to be cut off: %v", err)
	}
	d.On()
	l, err := All(d)
	if err != api.OK || len(l) != small.Sectors {
		t.Fatalf("scanning: %d sectors, %v", len(l), err)
	}
	left, _ := d.Read(complex(cutSector, float64(len(front))), len(b))
	return l[cutSector], left
}

// P8.3: of an item that is programmed at the end and cut off nothing, what is torn, or the whole is found; what was found ahead stays.
func TestItemCutOff(t *testing.T) {
	d := device(t, small, nil)
	for _, front := range ahead(t) {
		was := Of(small, cutSector, append(bytes.Clone(front), bytes.Repeat([]byte{255}, small.Size-len(front))...))
		for _, x := range []api.Item{item(3), item(5), {Count: 1, Key: "a"}} {
			f := frame(flagsWritten, writing(t, x))
			for n := range len(f) + 2 {
				for _, mask := range masks {
					want := was
					got, left := cutOff(t, d, front, f, n, mask)
					switch {
					case bytes.Equal(left, f):
						want.End += len(f)
						want.Found = append(slices.Clone(was.Found), foundAt(cutSector, was.End, false, x))
					case !isBlank(left):
						want.Full = true
					}
					if !same(got, want) {
						t.Fatalf("cut off behind %d bytes, mask %d: %+v, not %+v", n, mask, got, want)
					}
					if n >= len(f) && len(got.Found) == len(was.Found) {
						t.Fatalf("all %d bytes were done, and %+v isn't found", n, x)
					}
				}
			}
		}
	}
}

// P8.3: whatever is programmed at the end and cut off, what was found ahead stays.
func TestAnythingCutOff(t *testing.T) {
	d := device(t, small, nil)
	next := chance(4)
	h := head.Of(small)
	for _, front := range ahead(t) {
		was := Of(small, cutSector, append(bytes.Clone(front), bytes.Repeat([]byte{255}, small.Size-len(front))...))
		whole := frame(flagsWritten, writing(t, item(4)))
		for _, b := range [][]byte{
			make([]byte, 40), bytes.Repeat([]byte{255}, 40), h[:], head.Death(), []byte(text(60)), filler(25),
			append(filler(12), whole...), append(whole, whole...), append(whole, frame(flagsWritten, nil)...),
			append([]byte{255}, whole...), make([]byte, small.Size-len(front)), filler(small.Size - len(front)),
		} {
			for range 150 {
				got, _ := cutOff(t, d, front, b, next(len(b)+1), byte(next(256)))
				if got.Class != api.Live || got.End < was.End || len(got.Found) < len(was.Found) || !slices.Equal(got.Found[:len(was.Found)], was.Found) {
					t.Fatalf("cut off: %+v, not %+v and more", got, was)
				}
				for _, f := range got.Found[len(was.Found):] {
					if imag(f.At) < float64(was.End) {
						t.Fatalf("%+v stands ahead of the end %d", f, was.End)
					}
				}
			}
		}
	}
}

// P8.3: what is programmed at the end and cut off changes nothing in other sectors.
func TestOthersCutOff(t *testing.T) {
	sectors := several(t, small)
	delete(sectors, cutSector)
	d := device(t, small, sectors)
	was, _ := All(d)
	f := frame(flagsWritten, writing(t, item(8)))
	for n := range len(f) + 1 {
		cutOff(t, d, live(small)[:8], f, n, 85)
		l, err := All(d)
		if err != api.OK {
			t.Fatal(err)
		}
		for i := range l {
			if i != cutSector && !same(l[i], was[i]) {
				t.Fatalf("sector %d: %+v, not %+v", i, l[i], was[i])
			}
		}
	}
}
