package nor

import (
	"bytes"
	"testing"

	"flint/api"
)

// model is a device told bit by bit, as slowly as the chapter says it.
type model struct {
	g           api.Geometry
	high        [][]bool
	wear        []int
	bad         []bool
	on, cut     bool
	left, whole int
	mask        byte
	acts, offs  int
	erased      []bool
}

// newModel is a model of a device that is on.
func newModel(g api.Geometry) *model {
	m := &model{g: g, on: true, wear: make([]int, g.Sectors), bad: make([]bool, g.Sectors), erased: make([]bool, g.Sectors)}
	for range g.Sectors {
		bits := make([]bool, 8*g.Size)
		for i := range bits {
			bits[i] = true
		}
		m.high = append(m.high, bits)
	}
	return m
}

// act does n bytes of a sector, of which bit is what becomes of each bit.
func (m *model) act(sector, offset, n int, bit func(i, k int, old bool) bool) api.Errno {
	m.acts++
	isCut := m.cut && m.left == 0
	for i := range n {
		for k := range 8 {
			at := &m.high[sector][8*(offset+i)+k]
			if !isCut || i < m.whole || i == m.whole && m.mask>>k&1 == 1 {
				*at = bit(i, k, *at)
			}
		}
	}
	if isCut {
		m.cut, m.on = false, false
		m.offs++
		return api.ErrOff
	}
	m.left--
	return api.OK
}

// program programs bytes.
func (m *model) program(sector, offset int, b []byte) api.Errno {
	switch {
	case !m.on:
		return api.ErrOff
	case len(b) == 0 || sector < 0 || sector >= m.g.Sectors || offset < 0 || offset+len(b) > m.g.Size:
		return api.ErrArg
	case m.bad[sector]:
		return api.ErrBad
	}
	return m.act(sector, offset, len(b), func(i, k int, old bool) bool { return old && b[i]>>k&1 == 1 })
}

// erase erases a sector.
func (m *model) erase(sector int) api.Errno {
	switch {
	case !m.on:
		return api.ErrOff
	case sector < 0 || sector >= m.g.Sectors:
		return api.ErrArg
	case m.bad[sector]:
		return api.ErrBad
	}
	m.wear[sector]++
	m.erased[sector] = true
	return m.act(sector, 0, m.g.Size, func(i, k int, old bool) bool { return true })
}

// off switches it off.
func (m *model) off() {
	if m.on {
		m.on, m.cut = false, false
		m.offs++
	}
}

// bytesOf is what stands in a sector.
func (m *model) bytesOf(sector int) []byte {
	b := make([]byte, m.g.Size)
	for i := range b {
		for k := range 8 {
			if m.high[sector][8*i+k] {
				b[i] |= 1 << k
			}
		}
	}
	return b
}

// numbers are a row of numbers that is the same each time it is begun with the same one.
type numbers uint64

// below is the next number, from 0 to below n.
func (x *numbers) below(n int) int {
	*x = *x*6364136223846793005 + 1442695040888963407
	return int(uint64(*x)>>33) % n
}

// some are up to n bytes.
func (x *numbers) some(n int) []byte {
	b := make([]byte, x.below(n+1))
	for i := range b {
		b[i] = byte(x.below(256))
	}
	return b
}

// step does one and the same thing to a device and to its model, that the numbers choose, and tells what both answer.
func step(x *numbers, d *Device, m *model) (got, want api.Errno) {
	g := m.g
	switch x.below(16) {
	case 0, 1, 2:
		sector := x.below(g.Sectors+2) - 1
		return d.Erase(sector), m.erase(sector)
	case 3:
		n, p, mask := x.below(8)-1, x.below(g.Size+3)-1, byte(x.below(256))
		if x.below(2) == 0 {
			p = x.below(6) - 1
		}
		d.Cut(n, p, mask)
		m.cut, m.left, m.whole, m.mask = true, max(n, 0), max(p, 0), mask
	case 4:
		if x.below(4) == 0 {
			d.Off()
			m.off()
		}
	case 5, 6:
		d.On()
		m.on = true
	case 7:
		if sector := x.below(g.Sectors); x.below(20) == 0 {
			d.Spoil(sector)
			m.bad[sector] = true
		}
	default:
		sector, offset, b := x.below(g.Sectors+1), x.below(g.Size+1), x.some(20)
		if x.below(10) == 0 {
			b = x.some(g.Size + 1)
		}
		return d.Program(complex(float64(sector), float64(offset)), b), m.program(sector, offset, b)
	}
	return api.OK, api.OK
}

// alike fails the test, if a device isn't as its model.
func alike(t *testing.T, d *Device, m *model) {
	t.Helper()
	if d.IsOn() != m.on || d.Acts() != m.acts || d.Offs() != m.offs || d.Geometry() != m.g {
		t.Fatalf("it stands at %v; on %v, %d acts, %d offs are right", stateOf(d), m.on, m.acts, m.offs)
	}
	for i, b := range content(t, d) {
		if d.Wear(i) != m.wear[i] {
			t.Fatalf("sector %d: wear %d, not %d", i, d.Wear(i), m.wear[i])
		}
		if !bytes.Equal(b, m.bytesOf(i)) {
			t.Fatalf("sector %d is wrong", i)
		}
	}
}

// P4.1: rows of all calls, held against a model.
func TestRows(t *testing.T) {
	for begin := range 60 {
		x := numbers(begin)
		g := api.Geometry{Sectors: 6 + x.below(3), Size: 512 + x.below(30)}
		d, m := device(t, g), newModel(g)
		for i := range 150 {
			got, want := step(&x, d, m)
			if got != want {
				t.Fatalf("row %d, call %d: %v, not %v", begin, i, got, want)
			}
			alike(t, d, m)
		}
	}
}

// P4.2: between two erases of a sector no bit of it rises; P4.3: a call changes one sector at most.
func TestBitsFall(t *testing.T) {
	for begin := range 60 {
		x := numbers(1000 + begin)
		d, m := device(t, small), newModel(small)
		ahead := content(t, d)
		for i := range 300 {
			clear(m.erased)
			step(&x, d, m)
			behind, changed := content(t, d), 0
			for sector, b := range behind {
				if !bytes.Equal(b, ahead[sector]) {
					changed++
				}
				for k := range b {
					if !m.erased[sector] && b[k]&^ahead[sector][k] != 0 {
						t.Fatalf("row %d, call %d: bits rise at byte %d of sector %d", begin, i, k, sector)
					}
				}
			}
			if changed > 1 {
				t.Fatalf("row %d, call %d: %d sectors are changed", begin, i, changed)
			}
			ahead = behind
		}
	}
}

// P4.2: whatever is programmed over whatever, whole or cut off, no bit rises.
func TestNoBitRises(t *testing.T) {
	for old := 0; old < 256; old += 5 {
		for mask := 0; mask < 256; mask += 3 {
			for _, next := range []byte{0, 1, 85, 128, 170, 255} {
				d := device(t, small)
				good(t, d.Program(1+9i, []byte{byte(old), byte(old)}))
				d.Cut(0, 1, byte(mask))
				d.Program(1+9i, []byte{next, next})
				d.On()
				b, err := d.Read(1+9i, 2)
				good(t, err)
				if b[0]&^byte(old) != 0 || b[1]&^byte(old) != 0 {
					t.Fatalf("%d over %d, mask %d: %v", next, old, mask, b)
				}
			}
		}
	}
}

// P4.3: a program changes no byte ahead of its place or behind its end, and no other sector, whether it is cut off or not.
func TestEachForItself(t *testing.T) {
	for begin := range 400 {
		x := numbers(5000 + begin)
		d := device(t, small)
		for i := range 6 {
			line := make([]byte, 512)
			for k := range line {
				line[k] = byte(x.below(256))
			}
			good(t, d.Program(complex(float64(i), 0), line))
		}
		ahead := content(t, d)
		if x.below(2) == 0 {
			d.Cut(0, x.below(30), byte(x.below(256)))
		}
		sector, n := x.below(6), 1+x.below(30)
		offset := x.below(513 - n)
		erase := x.below(3) == 0
		if erase {
			offset, n = 0, 512
			d.Erase(sector)
		} else {
			d.Program(complex(float64(sector), float64(offset)), make([]byte, n))
		}
		for i, b := range content(t, d) {
			for k := range b {
				if inside := i == sector && k >= offset && k < offset+n; !inside && b[k] != ahead[i][k] {
					t.Fatalf("row %d: byte %d of sector %d is changed", begin, k, i)
				}
			}
		}
	}
}
