package head

import (
	"bytes"
	"math/bits"
	"testing"

	"flint/api"
	"flint/nor"
)

// cutSector is the sector that the tests cut off acts on.
const cutSector = 2

// device is a new device whose sector holds these bytes.
func device(t *testing.T, g api.Geometry, b []byte) *nor.Device {
	t.Helper()
	d, err := nor.New(g)
	if err == api.OK {
		err = d.Program(cutSector, b)
	}
	if err != api.OK {
		t.Fatalf("a device of %v: %v", g, err)
	}
	return d
}

// content is what stands in the sector.
func content(t *testing.T, d *nor.Device, g api.Geometry) []byte {
	t.Helper()
	d.On()
	b, err := d.Read(cutSector, g.Size)
	if err != api.OK {
		t.Fatalf("reading: %v", err)
	}
	return b
}

// cutOff is what stands in the sector, when an act on it was cut off.
func cutOff(t *testing.T, d *nor.Device, g api.Geometry, n int, mask byte, act func() api.Errno) []byte {
	t.Helper()
	d.Cut(0, n, mask)
	if err := act(); err != api.ErrOff {
		t.Fatalf("an act that is to be cut off: %v", err)
	}
	return content(t, d, g)
}

// masks are all there are.
func masks() []byte {
	var l []byte
	for i := range 256 {
		l = append(l, byte(i))
	}
	return l
}

// wantOf is what a sector is to be that begins so, and is blank behind.
func wantOf(g api.Geometry, front []byte) int {
	h := reckoned(g)
	switch {
	case bytes.Equal(front, h[:]):
		return api.Live
	case bytes.Equal(front, bytes.Repeat([]byte{255}, api.HeadSize)):
		return api.Blank
	}
	return api.Dirty
}

// P5.2: of a head whose program was cut off, at any byte and any bits of the next one, none is there, but it is whole.
func TestHeadCutOff(t *testing.T) {
	for _, g := range some() {
		d := device(t, g, []byte{255})
		h := Of(g)
		for n := range api.HeadSize + 1 {
			for _, mask := range masks() {
				b := cutOff(t, d, g, n, mask, func() api.Errno { return d.Program(cutSector, h[:]) })
				want := wantOf(g, b[:api.HeadSize])
				if n == api.HeadSize && want != api.Live {
					t.Fatalf("%q isn't the whole head of %v", b[:api.HeadSize], g)
				}
				is(t, "a head that was cut off", g, b, want)
				d.Erase(cutSector)
			}
		}
	}
}

// P5.2: a head of which any one or two bits are otherwise is none; neither is one that has just some of its bytes.
func TestHeadOfOtherBits(t *testing.T) {
	for _, g := range some() {
		b := liveSector(g)
		for i := range 8 * api.HeadSize {
			b[i/8] ^= 1 << (i % 8)
			is(t, "one bit otherwise", g, b, api.Dirty)
			for j := range i {
				b[j/8] ^= 1 << (j % 8)
				is(t, "two bits otherwise", g, b, api.Dirty)
				b[j/8] ^= 1 << (j % 8)
			}
			b[i/8] ^= 1 << (i % 8)
		}
		for left := range 255 {
			b := liveSector(g)
			for i := range api.HeadSize {
				if left>>i&1 == 0 {
					b[i] = 255
				}
			}
			is(t, "some bytes of a head", g, b, wantOf(g, b[:api.HeadSize]))
		}
	}
}

// P5.2: of a head whose death was begun none is left, as soon as one bit of it fell, whatever stands behind it.
func TestDeathCutOff(t *testing.T) {
	for _, g := range some() {
		for _, behind := range []byte{255, 0, 84} {
			d := device(t, g, []byte{255})
			whole := append(liveSector(g)[:api.HeadSize], bytes.Repeat([]byte{behind}, g.Size-api.HeadSize)...)
			for n := range api.HeadSize + 1 {
				for _, mask := range masks() {
					d.Erase(cutSector)
					d.Program(cutSector, whole)
					b := cutOff(t, d, g, n, mask, func() api.Errno { return d.Program(cutSector, Death()) })
					want := api.Dirty
					if bytes.Equal(b, whole) {
						want = api.Live
					}
					if n > 0 && want == api.Live {
						t.Fatalf("a byte of %v's death was done, and nothing is changed", g)
					}
					is(t, "a death that was begun", g, b, want)
				}
			}
		}
	}
}

// P5.2: of a dead head that is erased from the front none comes, and it isn't blank, as long as not all of it is.
func TestEraseCutOff(t *testing.T) {
	for _, g := range some() {
		whole := make([]byte, g.Size)
		copy(whole[api.HeadSize:], bytes.Repeat([]byte("TxNR records"), g.Size))
		d := device(t, g, whole)
		for n := range 2*api.HeadSize + 1 {
			for _, mask := range masks() {
				b := cutOff(t, d, g, n, mask, func() api.Errno { return d.Erase(cutSector) })
				is(t, "a dead one that is being erased", g, b, api.Dirty)
				d.Erase(cutSector)
				d.Program(cutSector, whole)
			}
		}
	}
}

// P5.2: a dead one that is erased is Dirty up to its last bit, and Blank then.
func TestEraseUpToTheEnd(t *testing.T) {
	for _, g := range some() {
		whole := make([]byte, g.Size)
		d := device(t, g, whole)
		for _, mask := range masks() {
			for _, n := range []int{g.Size - 2, g.Size - 1, g.Size} {
				d.Program(cutSector, whole)
				b := cutOff(t, d, g, n, mask, func() api.Errno { return d.Erase(cutSector) })
				want := api.Dirty
				if n == g.Size || n == g.Size-1 && bits.OnesCount8(mask) == 8 {
					want = api.Blank
				}
				is(t, "a dead one that is all but erased", g, b, want)
			}
		}
	}
}

// P5.2: a blank one is Live once its head is programmed, stays so with what is programmed behind, and is Dirty once it is dead, until it is erased.
func TestLife(t *testing.T) {
	for _, g := range some() {
		d := device(t, g, []byte{255})
		h := Of(g)
		is(t, "a new sector", g, content(t, d, g), api.Blank)
		d.Program(cutSector, h[:])
		is(t, "one with a head", g, content(t, d, g), api.Live)
		d.Program(cutSector, h[:])
		is(t, "one whose head was programmed twice", g, content(t, d, g), api.Live)
		d.Program(complex(cutSector, api.HeadSize), make([]byte, g.Size-api.HeadSize))
		is(t, "a full one", g, content(t, d, g), api.Live)
		d.Program(cutSector, Death())
		is(t, "a dead one", g, content(t, d, g), api.Dirty)
		d.Program(cutSector, h[:])
		is(t, "a dead one with a head over it", g, content(t, d, g), api.Dirty)
		d.Erase(cutSector)
		is(t, "an erased one", g, content(t, d, g), api.Blank)
	}
}
