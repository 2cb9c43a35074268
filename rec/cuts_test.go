package rec

import (
	"bytes"
	"testing"

	"flint/api"
	"flint/nor"
)

// cutAt is where the tests program a frame that is cut off: behind one that is whole.
const cutAt = 11

// device is a new device in whose first sector a whole frame stands.
func device(t *testing.T) *nor.Device {
	t.Helper()
	d, err := nor.New(api.Geometry{Sectors: 6, Size: 512})
	if err == api.OK {
		err = d.Program(0, frame(t, []byte("abc")))
	}
	if err != api.OK {
		t.Fatalf("a device: %v", err)
	}
	return d
}

// again makes the first sector what it was on a new device.
func again(t *testing.T, d *nor.Device) {
	t.Helper()
	d.Erase(0)
	d.Program(0, frame(t, []byte("abc")))
}

// content is what stands in the first sector.
func content(t *testing.T, d *nor.Device) []byte {
	t.Helper()
	d.On()
	b, err := d.Read(0, 512)
	if err != api.OK {
		t.Fatalf("reading: %v", err)
	}
	return b
}

// cutOff programs bytes at a place, and is cut off.
func cutOff(t *testing.T, d *nor.Device, p api.Place, b []byte, n int, mask byte) []byte {
	t.Helper()
	d.Cut(0, n, mask)
	if err := d.Program(p, b); err != api.ErrOff {
		t.Fatalf("a program that is to be cut off: %v", err)
	}
	return content(t, d)
}

// left fails the test, if something else is left of a frame that was cut off than nothing, what is torn, or the whole record.
func left(t *testing.T, b []byte, at int, record []byte) {
	t.Helper()
	whole := reckoned(flagsWritten, record)
	front := b[at:min(at+len(whole), len(b))]
	switch {
	case bytes.Equal(front, whole):
		stands(t, "all of a frame", b, at, api.Written, record)
	case bytes.Equal(b[at:], bytes.Repeat([]byte{255}, len(b)-at)):
		none(t, "nothing of a frame", b, at, api.Blank)
	default:
		none(t, "some of a frame", b, at, api.Torn)
	}
}

// P6.3: of a frame that is cut off at any byte, with any bits of the next one, nothing is left, or what is torn, or the whole record; what stood ahead stays.
func TestCutOff(t *testing.T) {
	d := device(t)
	for _, r := range short() {
		f := frame(t, r)
		for n := range len(f) + 1 {
			for _, mask := range []byte{0, 1, 16, 32, 64, 96, 127, 128, 160, 192, 224, 254, 255} {
				b := cutOff(t, d, complex(0, cutAt), f, n, mask)
				left(t, b, cutAt, r)
				stands(t, "what stood ahead", b, 0, api.Written, []byte("abc"))
				again(t, d)
			}
		}
	}
}

// P6.3: as TestCutOff, with all bits there are.
func TestCutOffAtAllBits(t *testing.T) {
	d := device(t)
	for _, r := range [][]byte{nil, {0}, {255}, []byte("a"), []byte("some bytes"), bytes.Repeat([]byte{255}, 9), make([]byte, 9)} {
		f := frame(t, r)
		for n := range len(f) + 1 {
			for mask := range 256 {
				left(t, cutOff(t, d, complex(0, cutAt), f, n, byte(mask)), cutAt, r)
				again(t, d)
			}
		}
	}
}

// P6.3: of a frame without its last byte, or whose last byte isn't all programmed, no record is left; with it the record is.
func TestCutOffAtTheEnd(t *testing.T) {
	d := device(t)
	for _, r := range short() {
		f := frame(t, r)
		for mask := range 256 {
			b := cutOff(t, d, complex(0, cutAt), f, len(f)-1, byte(mask))
			if mask == 255 {
				stands(t, "with its last byte", b, cutAt, api.Written, r)
			} else {
				none(t, "without its last byte", b, cutAt, api.Torn)
			}
			again(t, d)
		}
		stands(t, "cut off behind it", cutOff(t, d, complex(0, cutAt), f, len(f), 0), cutAt, api.Written, r)
		again(t, d)
	}
}

// P6.3: so it is of long records, too, and where other bytes than blank ones stand behind the frame's place, so far that each length that is cut off finds its end among them.
func TestLongOnesCutOff(t *testing.T) {
	for _, r := range records() {
		f := frame(t, r)
		for _, behind := range [][]byte{nil, {0}, make([]byte, 65543), bytes.Repeat([]byte{255}, 65543)} {
			for _, n := range places(len(f)) {
				for _, mask := range []byte{0, 1, 128, 127, 255} {
					b := append(bytes.Repeat([]byte{255}, len(f)), behind...)
					copy(b, f[:n])
					if n < len(f) {
						b[n] &= f[n] | ^mask
					}
					left(t, b, 0, r)
				}
			}
		}
	}
}

// places are the edges of the parts of a frame of n bytes.
func places(n int) []int {
	l := []int{0, 1, 2, 3, 4, 5, 6, 7}
	for _, at := range []int{8, n / 2, n - 2, n - 1, n} {
		if at > l[len(l)-1] {
			l = append(l, at)
		}
	}
	return l
}

// P6.2, P6.3: flags that are programmed over a frame, and cut off, leave the record as it was, or as these say; never torn.
func TestFlagsCutOff(t *testing.T) {
	d := device(t)
	for mask := range 256 {
		for n := range 2 {
			done := n > 0
			b := cutOff(t, d, 0, []byte{Flag(api.Settled)}, n, byte(mask))
			want := api.Written
			if done || mask&64 != 0 {
				want = api.Settled
			}
			stands(t, "settled, and cut off", b, 0, want, []byte("abc"))
			b = cutOff(t, d, 0, []byte{Flag(api.Obsolete)}, n, byte(mask))
			if done || mask&32 != 0 {
				want = api.Obsolete
			}
			stands(t, "obsolete, and cut off", b, 0, want, []byte("abc"))
			again(t, d)
		}
	}
}

// P6.2: what is programmed on a device is found there, and with flags programmed over it is what these say; programmed where nothing stands they are no record.
func TestOnDevice(t *testing.T) {
	d := device(t)
	for _, r := range short() {
		f := frame(t, r)
		if err := d.Program(complex(0, cutAt), f); err != api.OK {
			t.Fatal(err)
		}
		stands(t, "programmed", content(t, d), cutAt, api.Written, r)
		d.Program(complex(0, cutAt), f)
		stands(t, "programmed twice", content(t, d), cutAt, api.Written, r)
		d.Program(complex(0, cutAt), []byte{Flag(api.Settled)})
		stands(t, "settled", content(t, d), cutAt, api.Settled, r)
		d.Program(complex(0, cutAt), []byte{Flag(api.Obsolete)})
		stands(t, "obsolete", content(t, d), cutAt, api.Obsolete, r)
		d.Program(complex(0, cutAt), []byte{Flag(api.Written)})
		stands(t, "no flag", content(t, d), cutAt, api.Obsolete, r)
		again(t, d)
		d.Program(complex(0, cutAt), []byte{Flag(api.Settled)})
		none(t, "a flag where nothing stands", content(t, d), cutAt, api.Torn)
		again(t, d)
	}
}
