package shelf

import (
	"bytes"
	"slices"
	"testing"

	"flint/api"
	"flint/head"
	"flint/nor"
	"flint/scan"
)

// chance answers numbers below n that look like chance, the same ones in each run.
func chance(seed uint32) func(n int) int {
	x := seed
	return func(n int) int {
		x = x*1664525 + 1013904223
		return int(x>>8) % n
	}
}

// model is what the chapter's words say of a shelf, on a device of its own, with one list for each thing that is known of sectors.
type model struct {
	d          *nor.Device
	class      []int
	end, need  []int
	age        []uint64
	held       []bool
	open       int
	sectors, n int
}

// newModel is a model of a shelf that is made on a device.
func newModel(t *testing.T, d *nor.Device) *model {
	t.Helper()
	g := d.Geometry()
	m := &model{d: d, open: -1, sectors: g.Sectors, n: g.Size}
	for i := range g.Sectors {
		b, err := d.Read(at(i, 0), g.Size)
		good(t, err)
		x := scan.Of(g, i, b)
		ages := []uint64{0}
		for _, f := range x.Found {
			ages = append(ages, f.Item.Seq)
		}
		m.class, m.end, m.age = append(m.class, x.Class), append(m.end, x.End), append(m.age, slices.Max(ages))
		m.need, m.held = append(m.need, 0), append(m.held, false)
	}
	return m
}

// blank is the sector to write of those that aren't among some others; -1, if there is none.
func (m *model) blank(but []int) int {
	best := -1
	for i := m.sectors - 1; i >= 0; i-- {
		if m.class[i] == api.Blank && !m.held[i] && !slices.Contains(but, i) && (best < 0 || m.d.Wear(i) <= m.d.Wear(best)) {
			best = i
		}
	}
	return best
}

// plan is where bytes would be written, and which sectors would be opened for them.
func (m *model) plan(sizes []int) ([]api.Place, []int, bool) {
	var places []api.Place
	var opened []int
	sector, end := -1, 0
	if m.open >= 0 {
		sector, end = m.open, m.end[m.open]
	}
	for _, n := range sizes {
		if n < 1 || n > m.n-8 {
			return nil, nil, false
		}
		if sector < 0 || m.n-end < n {
			if sector, end = m.blank(opened), 8; sector < 0 {
				return nil, nil, false
			}
			opened = append(opened, sector)
		}
		places, end = append(places, at(sector, end)), end+n
	}
	return places, opened, true
}

// refusedAt notes that an act at a sector answered an error.
func (m *model) refusedAt(sector int, err api.Errno) api.Errno {
	if err == api.ErrBad {
		m.held[sector] = true
		if m.open == sector {
			m.open = -1
		}
	}
	return err
}

// write writes bytes.
func (m *model) write(b []byte, age uint64) (api.Place, api.Errno) {
	if len(b) == 0 || len(b) > m.n-8 {
		return 0, api.ErrLong
	}
	places, opened, ok := m.plan([]int{len(b)})
	if !ok {
		return 0, api.ErrSpace
	}
	sector := int(real(places[0]))
	if len(opened) > 0 {
		m.open = -1
		acts, h := m.d.Acts(), head.Of(m.d.Geometry())
		if err := m.d.Program(at(sector, 0), h[:]); err != api.OK {
			if m.d.Acts() != acts {
				m.class[sector] = api.Dirty
			}
			return 0, m.refusedAt(sector, err)
		}
		m.open, m.class[sector], m.end[sector] = sector, api.Live, 8
	}
	if err := m.d.Program(places[0], b); err != api.OK {
		m.open = -1
		return 0, m.refusedAt(sector, err)
	}
	m.end[sector] += len(b)
	if age > m.age[sector] {
		m.age[sector] = age
	}
	return places[0], api.OK
}

// flag programs a flag.
func (m *model) flag(p api.Place, state int) api.Errno {
	flags := map[int]byte{api.Settled: 191, api.Obsolete: 223}
	if flags[state] == 0 {
		return api.ErrArg
	}
	return m.refusedAt(int(real(p)), m.d.Program(p, []byte{flags[state]}))
}

// erase erases a sector.
func (m *model) erase(sector int) api.Errno {
	if sector < 0 || sector >= m.sectors || sector == m.open || m.held[sector] {
		return api.ErrArg
	}
	if m.class[sector] == api.Live {
		if err := m.d.Program(at(sector, 0), make([]byte, 8)); err != api.OK {
			return m.refusedAt(sector, err)
		}
		m.class[sector] = api.Dirty
	}
	if m.class[sector] == api.Dirty {
		if err := m.d.Erase(sector); err != api.OK {
			return m.refusedAt(sector, err)
		}
		m.class[sector] = api.Blank
	}
	return api.OK
}

// alike holds a shelf, and what stands on its device, against its model.
func alike(t *testing.T, s *Shelf, m *model) bool {
	t.Helper()
	l := s.Infos()
	if len(l) != m.sectors {
		t.Errorf("%d sectors", len(l))
		return false
	}
	for i, x := range l {
		want := api.Info{Class: m.class[i], Open: i == m.open, Wear: m.d.Wear(i), Age: m.age[i], Need: m.need[i], Held: m.held[i]}
		end := 0
		if m.class[i] == api.Live {
			end = m.end[i]
		}
		if x != want || s.End(i) != end {
			t.Errorf("sector %d: %+v, end %d, not %+v, end %d", i, x, s.End(i), want, end)
		}
	}
	d := s.device
	if d.Acts() != m.d.Acts() || d.IsOn() != m.d.IsOn() || d.Offs() != m.d.Offs() {
		t.Errorf("%d acts, not %d", d.Acts(), m.d.Acts())
	}
	if d.IsOn() && !slices.EqualFunc(content(t, d), content(t, m.d), bytes.Equal) {
		t.Error("something else stands on the device")
	}
	return !t.Failed()
}

// row is a shelf and its model, that the same is told.
type row struct {
	t    *testing.T
	next func(n int) int
	s    *Shelf
	m    *model
	at   []api.Place
}

// newRow is a row of calls on a new device.
func newRow(t *testing.T, g api.Geometry, seed uint32) *row {
	r := &row{t: t, next: chance(seed)}
	r.s, _ = shelfOf(t, device(t, g))
	r.m = newModel(t, device(t, g))
	return r
}

// told fails the test, if a call of the shelf answered another error than its model.
func (r *row) told(what string, got, want api.Errno) {
	r.t.Helper()
	if got != want {
		r.t.Errorf("%s: %v, not %v", what, got, want)
	}
}

// size is how many bytes may be handed in.
func (r *row) size() int {
	n := r.m.n
	switch r.next(12) {
	case 0:
		return n - 8 - r.next(3) + 1
	case 1:
		return r.next(3)
	case 2:
		if r.m.open >= 0 {
			return n - r.m.end[r.m.open] + r.next(3) - 1
		}
	}
	return 1 + r.next(n/3)
}

// write writes some bytes.
func (r *row) write() {
	b := make([]byte, max(r.size(), 0))
	for i := range b {
		b[i] = byte(r.next(256))
	}
	if r.next(2) == 0 {
		b = frame(r.t, uint64(r.next(1000)), r.next(100))
	}
	age := uint64(r.next(1000))
	p, err := r.s.Write(b, age)
	want, wantErr := r.m.write(b, age)
	if r.told("Write", err, wantErr); p != want {
		r.t.Errorf("%d bytes: at %v, not %v", len(b), p, want)
	}
	if err == api.OK {
		r.at = append(r.at, p)
	}
}

// plan plans some bytes.
func (r *row) plan() {
	sizes := make([]int, r.next(30))
	for i := range sizes {
		if sizes[i] = r.size(); r.next(40) != 0 {
			sizes[i] = min(max(sizes[i], 1), r.m.n-8)
		}
	}
	l, n, ok := r.s.Plan(sizes)
	places, opened, wantOK := r.m.plan(sizes)
	if !slices.Equal(l, places) || n != len(opened) || ok != wantOK {
		r.t.Errorf("Plan(%v): %v, %d, %t, not %v, %v, %t", sizes, l, n, ok, places, opened, wantOK)
	}
}

// flag programs some flag.
func (r *row) flag() {
	p, state := at(r.next(r.m.sectors+1), r.next(r.m.n+1)), r.next(9)-1
	if len(r.at) > 0 && r.next(3) > 0 {
		p = r.at[r.next(len(r.at))]
	}
	r.told("Flag", r.s.Flag(p, state), r.m.flag(p, state))
}

// befall does something to both devices: a cut, a fall, a bad sector; or they are on again.
func (r *row) befall() {
	d, m, sector := r.s.device, r.m.d, r.next(r.m.sectors)
	acts, n, mask := r.next(4), r.next(12), byte(r.next(256))
	switch r.next(12) {
	case 0:
		d.Spoil(sector)
		m.Spoil(sector)
	case 1:
		d.Off()
		m.Off()
	case 2, 3, 4:
		d.Cut(acts, n, mask)
		m.Cut(acts, n, mask)
	case 5:
		d.On()
		m.On()
		r.again()
	default:
		d.On()
		m.On()
	}
}

// again makes the shelf anew.
func (r *row) again() {
	d := r.s.device
	s, _, err := New(d)
	if !d.IsOn() {
		if s != nil || err != api.ErrOff {
			r.t.Errorf("New of a device that is off: %v, %v", s, err)
		}
		return
	}
	r.s, _ = shelfOf(r.t, d)
	r.m = newModel(r.t, r.m.d)
}

// step does one call on both.
func (r *row) step() {
	sector, n := r.next(r.m.sectors+2)-1, r.next(600)
	switch r.next(20) {
	case 0, 1, 2, 3, 4, 5, 6, 7:
		r.write()
	case 8, 9:
		r.plan()
	case 10:
		r.flag()
	case 11, 12, 13, 14:
		r.told("Erase", r.s.Erase(sector), r.m.erase(sector))
	case 15:
		if r.s.Need(sector, n); sector >= 0 && sector < r.m.sectors {
			r.m.need[sector] = n
		}
	case 16:
		if n > 40 {
			return
		}
		if r.s.Hold(sector); sector >= 0 && sector < r.m.sectors {
			r.m.held[sector] = true
		}
	case 17:
		if n < 100 {
			r.again()
		}
	default:
		r.befall()
	}
}

// P12.1: rows of all calls answer as the chapter's words say, do the same acts, and leave the same.
func TestRows(t *testing.T) {
	for seed := range 120 {
		g := []api.Geometry{small, small, {Sectors: 7, Size: 601}, {Sectors: 9, Size: 1024}}[seed%4]
		r := newRow(t, g, uint32(seed))
		for n := range 400 {
			r.step()
			if t.Failed() || !alike(t, r.s, r.m) {
				t.Fatalf("row %d, call %d", seed, n)
			}
		}
	}
}

// P12.2: what is written as it was planned stands where that said, whatever was done ahead, and so many sectors are opened for it.
func TestAsPlanned(t *testing.T) {
	written, refused := 0, 0
	for seed := range 300 {
		r := newRow(t, small, uint32(1000+seed))
		for range r.next(60) {
			r.step()
		}
		for _, d := range []*nor.Device{r.s.device, r.m.d} {
			d.On()
			d.Cut(1000, 0, 0)
		}
		if r.next(2) == 0 {
			r.again()
		}
		for range r.next(4) {
			r.write()
		}
		var sizes []int
		for range r.next(12) {
			sizes = append(sizes, 1+r.next(300))
		}
		places, opened, ok := r.s.Plan(sizes)
		if !ok {
			refused++
			continue
		}
		if countBad(r.s) > 0 {
			continue
		}
		blank := countBlank(r.s)
		for i, n := range sizes {
			p, err := r.s.Write(make([]byte, n), 5)
			if p != places[i] || err != api.OK {
				t.Fatalf("row %d: %d bytes at %v, %v, not %v", seed, n, p, err, places[i])
			}
			written++
		}
		if blank-countBlank(r.s) != opened {
			t.Errorf("row %d: %d sectors were opened, not %d", seed, blank-countBlank(r.s), opened)
		}
	}
	if written < 200 || refused < 20 {
		t.Errorf("only %d written, %d plans refused", written, refused)
	}
}

// countBlank is how many sectors are blank.
func countBlank(s *Shelf) int {
	n := 0
	for _, x := range s.Infos() {
		if x.Class == api.Blank {
			n++
		}
	}
	return n
}

// countBad is how many sectors of its device are bad.
func countBad(s *Shelf) int {
	n := 0
	for i := range s.Infos() {
		// Programming a byte 255 changes nothing.
		if s.device.Program(at(i, 0), []byte{255}) == api.ErrBad {
			n++
		}
	}
	return n
}
