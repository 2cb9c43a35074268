package store

import (
	"slices"
	"strings"
	"testing"

	"flint/api"
	"flint/nor"
	"flint/pick"
	"flint/rec"
	"flint/ring"
	"flint/shelf"
)

// chance answers numbers below n that look like chance, the same ones in each run.
func chance(seed uint32) func(n int) int {
	x := seed
	return func(n int) int {
		x = x*1664525 + 1013904223
		return int(x>>8) % n
	}
}

// model is what the chapter's words say of a store, on a device of its own: of all that is there lists alone, that are gone through for each question.
type model struct {
	t      *testing.T
	d      *nor.Device
	s      *shelf.Shelf
	offs   int
	next   uint64
	l      []api.Found
	counts []bool
	// turns are how many turns there were of each kind: of the one to erase, of the oldest one, of the one to erase at once; and those that couldn't be.
	turns [4]int
}

// newModel is a model of a store that is opened on a device.
func newModel(t *testing.T, d *nor.Device) *model {
	t.Helper()
	s, l, err := shelf.New(d)
	good(t, err)
	m := &model{t: t, d: d, s: s, offs: d.Offs(), l: l, counts: ring.Count(l), next: 1}
	for _, f := range l {
		m.next = max(m.next, f.Item.Seq+1, f.Item.Ver+1)
	}
	return m
}

// sectorOf is the sector of a place.
func sectorOf(p api.Place) int { return int(real(p)) }

// top is the number of a key's item; -1, if nothing that counts is of that key.
func (m *model) top(key string) int {
	best := -1
	for i, f := range m.l {
		if !m.counts[i] || f.Item.Key != key {
			continue
		}
		x := f.Item
		if best < 0 || x.Ver > m.l[best].Item.Ver || x.Ver == m.l[best].Item.Ver && x.Seq > m.l[best].Item.Seq {
			best = i
		}
	}
	return best
}

// isNeeded tells whether an item is needed.
func (m *model) isNeeded(n int) bool {
	x := m.l[n]
	if m.top(x.Item.Key) != n {
		return false
	}
	for i, f := range m.l {
		if m.counts[i] && f.Item.Key == x.Item.Key && sectorOf(f.At) != sectorOf(x.At) {
			return true
		}
	}
	return !x.Item.Gone
}

// needed is how many bytes are needed: of one sector, or of all (-1).
func (m *model) needed(sector int) int {
	n := 0
	for i, f := range m.l {
		if (sector < 0 || sectorOf(f.At) == sector) && m.isNeeded(i) {
			n += f.Size
		}
	}
	return n
}

// pairs are all keys that are there, with their values.
func (m *model) pairs() []api.Pair {
	var l []api.Pair
	for i, f := range m.l {
		if m.top(f.Item.Key) == i && !f.Item.Gone {
			l = append(l, there(f.Item.Key, f.Item.Value))
		}
	}
	slices.SortFunc(l, func(a, b api.Pair) int { return strings.Compare(a.Key, b.Key) })
	return l
}

// write writes a ring.
func (m *model) write(l []api.Pair, vers []uint64) api.Errno {
	var sizes []int
	for _, p := range l {
		sizes = append(sizes, 32+len(p.Key)+len(p.Value))
	}
	places, _, ok := m.s.Plan(sizes)
	if !ok {
		return api.ErrSpace
	}
	seq, first := m.next, len(m.l)
	m.next++
	for i, p := range l {
		x := api.Item{Seq: seq, Ver: vers[i], Index: i, Count: len(l), Next: places[0], Gone: p.Gone, Key: p.Key, Value: p.Value}
		if i+1 < len(l) {
			x.Next = places[i+1]
		}
		w, err := ring.Put(x)
		good(m.t, err)
		f, err := rec.Put(w)
		good(m.t, err)
		p, err := m.s.Write(f, seq)
		if err != api.OK {
			return err
		}
		if p != places[i] {
			m.t.Fatalf("written at %v, not %v", p, places[i])
		}
		m.l, m.counts = append(m.l, api.Found{At: p, Size: len(f), Item: x}), append(m.counts, false)
	}
	for i := first; i < len(m.l); i++ {
		m.counts[i] = true
	}
	return api.OK
}

// settle is the first step of a turn.
func (m *model) settle() api.Errno {
	for i, f := range m.l {
		if !m.counts[i] || f.Settled {
			continue
		}
		err := m.s.Flag(f.At, api.Settled)
		if err != api.OK && err != api.ErrBad {
			return err
		}
		m.l[i].Settled = err == api.OK
		for _, x := range m.l {
			if err == api.ErrBad && x.Item.Seq == f.Item.Seq {
				m.s.Hold(sectorOf(x.At))
			}
		}
	}
	return api.OK
}

// choose is the third step of a turn.
func (m *model) choose(oldest bool) (int, bool) {
	l := m.s.Infos()
	blank := slices.ContainsFunc(l, func(x api.Info) bool { return x.Class == api.Blank && !x.Held })
	kind, choice := 0, pick.Erase
	if oldest {
		kind, choice = 1, pick.Oldest
	}
	if !blank {
		kind, choice = 2, pick.AtOnce
	}
	sector, ok := choice(l)
	if !ok {
		kind = 3
	}
	m.turns[kind]++
	return sector, ok
}

// turn is a turn of collecting.
func (m *model) turn(oldest bool) api.Errno {
	if err := m.settle(); err != api.OK {
		return err
	}
	for i := range m.s.Infos() {
		m.s.Need(i, m.needed(i))
	}
	sector, ok := m.choose(oldest)
	if !ok {
		return api.ErrSpace
	}
	var l []api.Pair
	var vers []uint64
	for i, f := range m.l {
		if x := f.Item; sectorOf(f.At) == sector && m.isNeeded(i) {
			l, vers = append(l, api.Pair{Key: x.Key, Value: x.Value, Gone: x.Gone}), append(vers, x.Ver)
		}
	}
	if len(l) > 0 {
		if err := m.write(l, vers); err != api.OK {
			return err
		}
	}
	if err := m.s.Erase(sector); err != api.OK {
		return err
	}
	var left []api.Found
	var counts []bool
	for i, f := range m.l {
		if sectorOf(f.At) != sector {
			left, counts = append(left, f), append(counts, m.counts[i])
		}
	}
	m.l, m.counts = left, counts
	return api.OK
}

// room tells whether there is room.
func (m *model) room(l []api.Pair) bool {
	var sizes []int
	for _, p := range l {
		sizes = append(sizes, 32+len(p.Key)+len(p.Value))
	}
	_, opened, ok := m.s.Plan(sizes)
	blank := 0
	for _, x := range m.s.Infos() {
		if x.Class == api.Blank && !x.Held {
			blank++
		}
	}
	return ok && blank-opened >= 2
}

// put puts pairs that may be put.
func (m *model) put(l []api.Pair) api.Errno {
	if m.gone() {
		return api.ErrOff
	}
	for n := range 8*m.d.Geometry().Sectors + 1 {
		if m.room(l) {
			return m.write(l, slices.Repeat([]uint64{m.next}, len(l)))
		}
		if n == 8*m.d.Geometry().Sectors {
			break
		}
		if err := m.turn(n >= 4*m.d.Geometry().Sectors); err != api.OK {
			return err
		}
	}
	return api.ErrSpace
}

// collect is a turn, unless it is gone.
func (m *model) collect() api.Errno {
	if m.gone() {
		return api.ErrOff
	}
	return m.turn(false)
}

// gone tells whether the device went off.
func (m *model) gone() bool { return m.d.Offs() != m.offs }
