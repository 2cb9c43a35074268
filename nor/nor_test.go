package nor

import (
	"bytes"
	"math"
	"testing"

	"flint/api"
)

// small is the smallest geometry, great the greatest.
var (
	small = api.Geometry{Sectors: 6, Size: 512}
	great = api.Geometry{Sectors: 64, Size: 4096}
)

// geometries are some that may be.
func geometries() []api.Geometry {
	return []api.Geometry{small, great, {Sectors: 6, Size: 4096}, {Sectors: 64, Size: 512}, {Sectors: 7, Size: 513}, {Sectors: 33, Size: 1000}}
}

// device is a new device that is on.
func device(t *testing.T, g api.Geometry) *Device {
	t.Helper()
	d, err := New(g)
	if err != api.OK || d == nil {
		t.Fatalf("New(%v) = %v, %v", g, d, err)
	}
	return d
}

// good fails the test, if a call answered an error.
func good(t *testing.T, err api.Errno) {
	t.Helper()
	if err != api.OK {
		t.Fatalf("%v", err)
	}
}

// wants fails the test, if a call answered another error.
func wants(t *testing.T, what string, got, want api.Errno) {
	t.Helper()
	if got != want {
		t.Errorf("%s: %v, not %v", what, got, want)
	}
}

// content is all that stands on a device, sector by sector, whether it is on or off.
func content(t *testing.T, d *Device) [][]byte {
	t.Helper()
	if !d.IsOn() {
		d.On()
		// The field is set again ahead of answering, as Off would count, and end a cut.
		defer func() { d.on = false }()
	}
	var all [][]byte
	for i := range d.Geometry().Sectors {
		b, err := d.Read(complex(float64(i), 0), d.Geometry().Size)
		if err != api.OK || len(b) != d.Geometry().Size {
			t.Fatalf("sector %d: %d bytes, %v", i, len(b), err)
		}
		all = append(all, b)
	}
	return all
}

// reads fails the test, if something else stands at a place.
func reads(t *testing.T, d *Device, p api.Place, want ...byte) {
	t.Helper()
	if got, err := d.Read(p, len(want)); err != api.OK || !bytes.Equal(got, want) {
		t.Errorf("at %v: %v, %v, not %v", p, got, err, want)
	}
}

// state is what a device answers of itself beside its bytes.
type state struct {
	on         bool
	acts, offs int
	wear       [api.MaxSectors]int
}

// stateOf is how a device stands.
func stateOf(d *Device) state {
	s := state{on: d.IsOn(), acts: d.Acts(), offs: d.Offs()}
	for i := range s.wear {
		s.wear[i] = d.Wear(i)
	}
	return s
}

// unchanged fails the test, if what a function does changes anything of a device.
func unchanged(t *testing.T, what string, d *Device, do func()) {
	t.Helper()
	bytesAhead, stateAhead := content(t, d), stateOf(d)
	do()
	if stateOf(d) != stateAhead {
		t.Errorf("%s: it stands otherwise: %v, not %v", what, stateOf(d), stateAhead)
	}
	for i, b := range content(t, d) {
		if !bytes.Equal(b, bytesAhead[i]) {
			t.Errorf("%s: sector %d is changed", what, i)
		}
	}
}

// P4.1: a new device has the geometry, is on, and all bytes are 255.
func TestNew(t *testing.T) {
	for _, g := range geometries() {
		d := device(t, g)
		if d.Geometry() != g {
			t.Errorf("Geometry() = %v, not %v", d.Geometry(), g)
		}
		if (stateOf(d) != state{on: true}) {
			t.Errorf("%v: it stands at %v", g, stateOf(d))
		}
		all := content(t, d)
		if len(all) != g.Sectors {
			t.Errorf("%v: %d sectors", g, len(all))
		}
		for i, b := range all {
			if !bytes.Equal(b, bytes.Repeat([]byte{255}, g.Size)) {
				t.Errorf("%v: sector %d isn't blank", g, i)
			}
		}
	}
}

// P4.1: a geometry that may not be is ErrArg, and there is no device.
func TestNewOfWrong(t *testing.T) {
	for _, g := range []api.Geometry{
		{}, {Sectors: 6}, {Size: 512},
		{Sectors: 5, Size: 512}, {Sectors: 6, Size: 511}, {Sectors: 65, Size: 512}, {Sectors: 6, Size: 4097},
		{Sectors: -6, Size: 512}, {Sectors: 6, Size: -512}, {Sectors: 0, Size: 4096}, {Sectors: 512, Size: 6},
		{Sectors: math.MaxInt, Size: math.MaxInt}, {Sectors: math.MinInt, Size: math.MinInt}, {Sectors: 6, Size: math.MaxInt}, {Sectors: math.MaxInt, Size: 512},
	} {
		if d, err := New(g); d != nil || err != api.ErrArg {
			t.Errorf("New(%v) = %v, %v", g, d, err)
		}
	}
}

// P4.1: the chapter's example, and bytes over each other: each bit that is 0 in one of them is 0.
func TestProgram(t *testing.T) {
	d := device(t, small)
	good(t, d.Program(1+7i, []byte{51}))
	good(t, d.Program(1+7i, []byte{15}))
	reads(t, d, 1+6i, 255, 3, 255)
	for old := range 256 {
		good(t, d.Erase(2))
		line := make([]byte, 256)
		for i := range line {
			line[i] = byte(i)
		}
		good(t, d.Program(2+100i, bytes.Repeat([]byte{byte(old)}, 256)))
		good(t, d.Program(2+100i, line))
		for i := range line {
			line[i] &= byte(old)
		}
		reads(t, d, 2+100i, line...)
	}
}

// P4.1, P4.3: bytes stand where they were programmed, up to a sector's edges, and nothing beside them is changed.
func TestProgramPlaces(t *testing.T) {
	for _, g := range geometries() {
		for _, sector := range []int{0, 1, g.Sectors - 2, g.Sectors - 1} {
			for _, at := range []struct{ offset, n int }{{0, 1}, {0, 2}, {1, 3}, {100, 255}, {0, g.Size}, {1, g.Size - 1}, {0, g.Size - 1}, {g.Size - 1, 1}, {g.Size - 2, 2}} {
				d := device(t, g)
				want := content(t, d)
				b := make([]byte, at.n)
				for i := range b {
					b[i] = byte(i * 7)
				}
				copy(want[sector][at.offset:], b)
				good(t, d.Program(complex(float64(sector), float64(at.offset)), b))
				for i, got := range content(t, d) {
					if !bytes.Equal(got, want[i]) {
						t.Errorf("%v: %d bytes at %d of sector %d: sector %d is wrong", g, at.n, at.offset, sector, i)
					}
				}
			}
		}
	}
}

// P4.1, P4.3: an erased sector is blank, and no other one is changed; its wear rises by 1, and no other one's.
func TestErase(t *testing.T) {
	for _, g := range geometries() {
		d := device(t, g)
		for i := range g.Sectors {
			good(t, d.Program(complex(float64(i), 0), bytes.Repeat([]byte{byte(i)}, g.Size)))
		}
		for times := 1; times <= 3; times++ {
			for _, sector := range []int{0, 3, g.Sectors - 1} {
				want, stand := content(t, d), stateOf(d)
				good(t, d.Erase(sector))
				want[sector] = bytes.Repeat([]byte{255}, g.Size)
				stand.wear[sector] = times
				stand.acts++
				if stateOf(d) != stand {
					t.Errorf("%v: sector %d: it stands at %v, not %v", g, sector, stateOf(d), stand)
				}
				for i, got := range content(t, d) {
					if !bytes.Equal(got, want[i]) {
						t.Errorf("%v: sector %d was erased, sector %d is wrong", g, sector, i)
					}
				}
				good(t, d.Program(complex(float64(sector), 5), []byte{0, 1, 2}))
			}
		}
	}
}

// P4.1: what is read: no byte, one, a sector; -0 counts as 0.
func TestRead(t *testing.T) {
	d := device(t, small)
	line := make([]byte, 512)
	for i := range line {
		line[i] = byte(i * 3)
	}
	good(t, d.Program(4, line))
	for _, c := range []struct{ offset, n int }{{0, 0}, {0, 1}, {0, 512}, {1, 511}, {511, 1}, {511, 0}, {512, 0}, {37, 100}} {
		got, err := d.Read(complex(4, float64(c.offset)), c.n)
		if err != api.OK || !bytes.Equal(got, line[c.offset:c.offset+c.n]) {
			t.Errorf("Read of %d bytes at %d: %v, %v", c.n, c.offset, got, err)
		}
	}
	zero := math.Copysign(0, -1)
	good(t, d.Program(complex(zero, zero), []byte{1, 2}))
	reads(t, d, 0, 1, 2, 255)
	reads(t, d, complex(zero, zero), 1, 2, 255)
}

// wrongPlaces are places where not even no byte is in a sector of the smallest geometry.
func wrongPlaces() []api.Place {
	return []api.Place{
		-1, -1i, 0.5, 0.5i, 5.5, 1 + 1.5i, 6, 6 + 1i, 255, 513i, 5 + 513i, 5 + 65536i, 1 << 31, complex(0, 1<<31),
		complex(1<<31-1, 1<<31-1), complex(1<<32, 0), complex(0, 1<<32), complex(1e300, 0), complex(0, 1e300),
		complex(math.NaN(), 0), complex(0, math.NaN()), complex(math.Inf(1), 0), complex(0, math.Inf(1)), complex(math.Inf(-1), math.Inf(-1)),
	}
}

// P4.1: bytes that aren't in a sector are ErrArg, and nothing is done.
func TestWrongPlaces(t *testing.T) {
	d := device(t, small)
	check := func(p api.Place, n int) {
		t.Helper()
		if b, err := d.Read(p, n); len(b) != 0 || err != api.ErrArg {
			t.Errorf("Read(%v, %d) = %v, %v", p, n, b, err)
		}
		if n >= 0 && n < 10000 {
			wants(t, "Program", d.Program(p, make([]byte, n)), api.ErrArg)
		}
	}
	unchanged(t, "wrong places", d, func() {
		for _, p := range wrongPlaces() {
			for _, n := range []int{0, 1, 512, -1, math.MaxInt, math.MinInt} {
				check(p, n)
			}
		}
		for _, c := range []struct {
			p api.Place
			n int
		}{
			{0, 513}, {1i, 512}, {511i, 2}, {512i, 1}, {5, 513}, {5 + 511i, 2}, {5 + 512i, 1}, {2 + 500i, 13}, {2, 1024}, {3 + 500i, 600},
			{0, -1}, {1 + 5i, -1}, {1 + 5i, -5}, {5 + 512i, -512}, {0, math.MaxInt}, {1i, math.MaxInt}, {1i, math.MinInt},
		} {
			check(c.p, c.n)
		}
	})
}

// P4.1: no byte is nothing to be programmed: ErrArg, and no act.
func TestProgramNothing(t *testing.T) {
	d := device(t, small)
	unchanged(t, "no byte", d, func() {
		for _, p := range []api.Place{0, 1, 3 + 40i, 5 + 511i, 5 + 512i, 6, -1} {
			wants(t, "nil", d.Program(p, nil), api.ErrArg)
			wants(t, "empty", d.Program(p, []byte{}), api.ErrArg)
		}
	})
}

// wrongSectors are numbers that no sector of the smallest geometry has.
func wrongSectors() []int {
	return []int{-1, -2, -6, 6, 7, 64, 255, 1 << 31, 1 << 32, 1 << 62, -(1 << 32), math.MaxInt, math.MinInt}
}

// P4.1: there is no such sector: ErrArg of an erase, 0 of wear, nothing of spoiling.
func TestWrongSectors(t *testing.T) {
	d := device(t, small)
	good(t, d.Erase(0))
	good(t, d.Erase(5))
	unchanged(t, "wrong sectors", d, func() {
		for _, sector := range wrongSectors() {
			wants(t, "Erase", d.Erase(sector), api.ErrArg)
			if d.Wear(sector) != 0 {
				t.Errorf("Wear(%d) = %d", sector, d.Wear(sector))
			}
			d.Spoil(sector)
			wants(t, "Erase behind Spoil", d.Erase(sector), api.ErrArg)
		}
	})
	for i := range 6 {
		good(t, d.Program(complex(float64(i), 0), []byte{1}))
		good(t, d.Erase(i))
	}
}

// P4.1: a bad sector can be read; acts on it do nothing, aren't counted, and answer ErrBad; the others aren't bad.
func TestSpoil(t *testing.T) {
	for _, sector := range []int{0, 2, 5} {
		d := device(t, small)
		p := complex(float64(sector), 9)
		good(t, d.Erase(sector))
		good(t, d.Program(p, []byte{7, 8, 9}))
		unchanged(t, "Spoil", d, func() { d.Spoil(sector); d.Spoil(sector) })
		unchanged(t, "acts on a bad sector", d, func() {
			wants(t, "Program", d.Program(p, []byte{0}), api.ErrBad)
			wants(t, "Program", d.Program(complex(float64(sector), 0), make([]byte, 512)), api.ErrBad)
			wants(t, "Erase", d.Erase(sector), api.ErrBad)
		})
		reads(t, d, p, 7, 8, 9)
		for i := range 6 {
			if i != sector {
				good(t, d.Program(complex(float64(i), 0), []byte{1}))
				good(t, d.Erase(i))
			}
		}
		d.Off()
		d.On()
		wants(t, "Program behind a fall", d.Program(p, []byte{0}), api.ErrBad)
		wants(t, "Erase behind a fall", d.Erase(sector), api.ErrBad)
	}
}

// P4.1: of several errors ErrOff comes first, then ErrArg, then ErrBad.
func TestOrderOfErrors(t *testing.T) {
	d := device(t, small)
	d.Spoil(1)
	wants(t, "Program: bad, too long", d.Program(1+511i, []byte{1, 2}), api.ErrArg)
	wants(t, "Program: bad, no byte", d.Program(1, nil), api.ErrArg)
	if _, err := d.Read(1+511i, 2); err != api.ErrArg {
		t.Errorf("Read: bad, too long: %v", err)
	}
	d.Off()
	for _, p := range append(wrongPlaces(), 0, 1, 5+512i) {
		for _, n := range []int{0, 1, 513, -1} {
			if b, err := d.Read(p, n); len(b) != 0 || err != api.ErrOff {
				t.Errorf("Read off: %v, %v", b, err)
			}
			wants(t, "Program off", d.Program(p, make([]byte, max(n, 0))), api.ErrOff)
		}
	}
	for _, sector := range append(wrongSectors(), 0, 1) {
		wants(t, "Erase off", d.Erase(sector), api.ErrOff)
	}
}

// P4.1: off it does nothing; what it is asked of itself it answers; it can come to be bad; on again all is as it was.
func TestOff(t *testing.T) {
	d := device(t, small)
	good(t, d.Program(1, []byte{5}))
	good(t, d.Erase(3))
	want := content(t, d)
	for times := 1; times <= 3; times++ {
		d.Off()
		d.Off()
		d.Program(1, []byte{0})
		d.Program(2, []byte{0})
		d.Erase(1)
		d.Erase(3)
		if d.IsOn() || d.Offs() != times || d.Acts() != 2 || d.Wear(1) != 0 || d.Wear(3) != 1 || d.Geometry() != small {
			t.Errorf("off: %v, %v", stateOf(d), d.Geometry())
		}
		d.On()
		d.On()
		if !d.IsOn() || d.Offs() != times || d.Acts() != 2 {
			t.Errorf("on: %v", stateOf(d))
		}
		for i, b := range content(t, d) {
			if !bytes.Equal(b, want[i]) {
				t.Errorf("sector %d is changed", i)
			}
		}
	}
	d.Off()
	d.Spoil(4)
	d.On()
	wants(t, "spoilt while it was off", d.Erase(4), api.ErrBad)
}

// P4.1: so many acts are done, the next one is cut off, and those behind it are done again once it is on.
func TestCutActs(t *testing.T) {
	for _, n := range []int{0, 1, 2, 3, 7, -1, math.MinInt} {
		d := device(t, small)
		d.Cut(n, 0, 0)
		done := max(n, 0)
		for i := range done {
			good(t, d.Program(complex(0, float64(i)), []byte{byte(i)}))
		}
		wants(t, "the act that is cut off", d.Program(0, make([]byte, 9)), api.ErrOff)
		if d.IsOn() || d.Offs() != 1 || d.Acts() != done+1 {
			t.Errorf("cut of %d: %v", n, stateOf(d))
		}
		d.On()
		for i := range done {
			reads(t, d, complex(0, float64(i)), byte(i))
		}
		for i := range 5 {
			good(t, d.Program(2, []byte{byte(i)}))
			good(t, d.Erase(2))
		}
		if !d.IsOn() || d.Offs() != 1 || d.Acts() != done+11 {
			t.Errorf("behind the cut of %d: %v", n, stateOf(d))
		}
	}
}

// P4.1: programs and erases count alike, reads don't.
func TestCutCountsActs(t *testing.T) {
	d := device(t, small)
	d.Cut(3, 9, 255)
	good(t, d.Erase(1))
	reads(t, d, 1, 255)
	good(t, d.Program(1, []byte{1}))
	reads(t, d, 1, 1)
	good(t, d.Erase(2))
	reads(t, d, 2, 255)
	wants(t, "the fourth act", d.Erase(1), api.ErrOff)
}

// cuts are how many bytes are done of 5: the number that is told, and the one that it means.
func cuts() []struct{ told, means int } {
	return []struct{ told, means int }{
		{0, 0}, {1, 1}, {2, 2}, {3, 3}, {4, 4}, {5, 5}, {6, 5}, {512, 5}, {math.MaxInt, 5}, {-1, 0}, {-5, 0}, {math.MinInt, 0},
	}
}

// P4.1, P4.3: a program that is cut off: the first bytes are done, of the next one the mask's bits, nothing behind it.
func TestCutProgram(t *testing.T) {
	old, programmed := []byte{0xf0, 0x3c, 0xff, 0x55, 0x81}, []byte{0x99, 0x0f, 0x12, 0x33, 0x00}
	for _, at := range []api.Place{0, 3 + 40i, 5 + 507i} {
		for _, c := range cuts() {
			for mask := range 256 {
				d := device(t, small)
				good(t, d.Program(at, old))
				all := content(t, d)
				d.Cut(0, c.told, byte(mask))
				wants(t, "Program", d.Program(at, programmed), api.ErrOff)
				want := all[int(real(at))][int(imag(at)):]
				for i := range c.means {
					want[i] = old[i] & programmed[i]
				}
				if c.means < 5 {
					want[c.means] = old[c.means] & (programmed[c.means] | ^byte(mask))
				}
				if (stateOf(d) != state{acts: 2, offs: 1}) {
					t.Fatalf("it stands at %v", stateOf(d))
				}
				for i, b := range content(t, d) {
					if !bytes.Equal(b, all[i]) {
						t.Fatalf("program at %v, cut %d, mask %d: sector %d is wrong", at, c.told, mask, i)
					}
				}
			}
		}
	}
}

// P4.1, P4.3: an erase that is cut off: the first bytes of the sector are 255, of the next one the mask's bits are 1; it wears.
func TestCutErase(t *testing.T) {
	for _, c := range []struct{ told, means int }{
		{0, 0}, {1, 1}, {8, 8}, {300, 300}, {510, 510}, {511, 511}, {512, 512}, {513, 512}, {4096, 512}, {math.MaxInt, 512}, {-1, 0}, {math.MinInt, 0},
	} {
		for _, mask := range []byte{0, 1, 2, 4, 8, 16, 32, 64, 128, 0x5a, 0xa5, 0xf0, 0x0f, 254, 255} {
			d := device(t, small)
			for i := range 6 {
				line := make([]byte, 512)
				for k := range line {
					line[k] = byte(k*5 + i)
				}
				good(t, d.Program(complex(float64(i), 0), line))
			}
			want := content(t, d)
			d.Cut(0, c.told, mask)
			wants(t, "Erase", d.Erase(4), api.ErrOff)
			for i := range c.means {
				want[4][i] = 255
			}
			if c.means < 512 {
				want[4][c.means] |= mask
			}
			s := state{acts: 7, offs: 1}
			s.wear[4] = 1
			if stateOf(d) != s {
				t.Fatalf("it stands at %v, not %v", stateOf(d), s)
			}
			for i, b := range content(t, d) {
				if !bytes.Equal(b, want[i]) {
					t.Fatalf("cut %d, mask %d: sector %d is wrong", c.told, mask, i)
				}
			}
		}
	}
}

// P4.1: acts that answer an error aren't counted, nor cut off.
func TestCutAndErrors(t *testing.T) {
	d := device(t, small)
	d.Spoil(5)
	d.Cut(1, 9, 255)
	errors := func() {
		t.Helper()
		wants(t, "Program of no byte", d.Program(0, nil), api.ErrArg)
		wants(t, "Program too long", d.Program(511i, []byte{1, 2}), api.ErrArg)
		wants(t, "Program of a bad sector", d.Program(5, []byte{1}), api.ErrBad)
		wants(t, "Erase of no sector", d.Erase(6), api.ErrArg)
		wants(t, "Erase of a bad sector", d.Erase(5), api.ErrBad)
	}
	errors()
	good(t, d.Program(0, []byte{1}))
	errors()
	errors()
	if !d.IsOn() || d.Acts() != 1 {
		t.Errorf("it stands at %v", stateOf(d))
	}
	wants(t, "the second act", d.Program(0, []byte{0}), api.ErrOff)
	if d.IsOn() || d.Acts() != 2 || d.Offs() != 1 {
		t.Errorf("it stands at %v", stateOf(d))
	}
}

// P4.1: of two cuts the later one is meant, in all that it says.
func TestCutInPlaceOfAnother(t *testing.T) {
	d := device(t, small)
	d.Cut(0, 0, 0)
	d.Cut(1, 1, 0x0f)
	good(t, d.Program(0, []byte{7}))
	d.Cut(1, 2, 0xf0)
	good(t, d.Program(1i, []byte{7}))
	wants(t, "the act that is cut off", d.Program(1, []byte{0, 0, 0, 0}), api.ErrOff)
	d.On()
	reads(t, d, 1, 0, 0, 0x0f, 255)
	good(t, d.Program(1, []byte{0, 0, 0, 0}))
}

// P4.1: a cut is over once it goes off, and stays when it goes on; one that is told while it is off stays, whoever switches it off again.
func TestCutAndOff(t *testing.T) {
	d := device(t, small)
	d.Cut(0, 0, 0)
	d.Off()
	d.On()
	good(t, d.Program(0, []byte{1}))
	d.Cut(2, 0, 0)
	d.On()
	good(t, d.Program(0, []byte{1}))
	d.Off()
	d.On()
	good(t, d.Program(0, []byte{1}))
	good(t, d.Erase(0))
	d.Off()
	d.Cut(1, 1, 0)
	d.Off()
	d.Program(3, []byte{0})
	d.Erase(3)
	if d.Offs() != 3 {
		t.Errorf("it went off %d times", d.Offs())
	}
	d.On()
	good(t, d.Program(2, []byte{1}))
	wants(t, "the act that is cut off", d.Program(2, []byte{0, 0}), api.ErrOff)
	if d.Offs() != 4 {
		t.Errorf("it went off %d times", d.Offs())
	}
	d.Off()
	if d.Offs() != 4 {
		t.Errorf("it went off %d times, as it was off already", d.Offs())
	}
	d.On()
	reads(t, d, 2, 0, 255)
	good(t, d.Program(2, []byte{0, 0}))
}

// P4.1: a nil device answers ErrOff, or nothing.
func TestNil(t *testing.T) {
	var d *Device
	for range 2 {
		for _, p := range append(wrongPlaces(), 0, 3+40i) {
			for _, n := range []int{0, 1, -1, math.MaxInt} {
				if b, err := d.Read(p, n); len(b) != 0 || err != api.ErrOff {
					t.Errorf("Read(%v, %d) = %v, %v", p, n, b, err)
				}
			}
			wants(t, "Program", d.Program(p, []byte{1}), api.ErrOff)
			wants(t, "Program of no byte", d.Program(p, nil), api.ErrOff)
		}
		for _, sector := range append(wrongSectors(), 0, 1) {
			wants(t, "Erase", d.Erase(sector), api.ErrOff)
			d.Spoil(sector)
			if d.Wear(sector) != 0 {
				t.Errorf("Wear(%d) = %d", sector, d.Wear(sector))
			}
		}
		d.Cut(0, 0, 0)
		d.Off()
		d.On()
		if d.IsOn() || d.Acts() != 0 || d.Offs() != 0 || (d.Geometry() != api.Geometry{}) {
			t.Errorf("it stands at %v, %v", stateOf(d), d.Geometry())
		}
	}
}

// P4.1 (R3): what is read is new memory, what is programmed isn't changed and isn't kept.
func TestMemory(t *testing.T) {
	d := device(t, small)
	b := []byte{1, 2, 3, 4}
	good(t, d.Program(1, b[:3]))
	good(t, d.Program(1, []byte{0, 255, 255}))
	if !bytes.Equal(b, []byte{1, 2, 3, 4}) {
		t.Errorf("what was handed in is %v", b)
	}
	clear(b)
	reads(t, d, 1, 0, 2, 3, 255)
	first, err := d.Read(1, 3)
	good(t, err)
	second, err := d.Read(1, 3)
	good(t, err)
	clear(first[:cap(first)])
	reads(t, d, 1, 0, 2, 3, 255)
	good(t, d.Erase(1))
	if !bytes.Equal(second, []byte{0, 2, 3}) {
		t.Errorf("what was read ahead of an erase is %v", second)
	}
	d.Cut(0, 1, 255)
	kept := []byte{9, 9, 9}
	d.Program(1, kept)
	if !bytes.Equal(kept, []byte{9, 9, 9}) {
		t.Errorf("what was handed in to be cut off is %v", kept)
	}
}

// P4.1 (R5): devices have nothing in common.
func TestTwoDevices(t *testing.T) {
	a, b := device(t, small), device(t, small)
	unchanged(t, "the other device", b, func() {
		good(t, a.Program(1, []byte{0}))
		good(t, a.Erase(2))
		a.Spoil(3)
		a.Cut(0, 0, 0)
		a.Erase(1)
	})
	good(t, b.Program(3, []byte{1}))
}
