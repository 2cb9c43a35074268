package store

import (
	"bytes"
	"fmt"
	"slices"
	"strings"
	"testing"

	"flint/api"
	"flint/nor"
)

// kind is of what kind the pairs of a row are.
type kind struct {
	g                      api.Geometry
	keys, value, most, del int
	fill                   string
	bad                    bool
	// One of so many calls is cut off, maybe.
	cuts int
	// So often at most sectors were erased ahead of all.
	wear int
}

// kindOf is one of many kinds.
func kindOf(next func(n int) int) kind {
	k := kind{
		g:    []api.Geometry{small, small, {Sectors: 7, Size: 601}, {Sectors: 9, Size: 777}}[next(4)],
		keys: 1 + next(30), value: next(65), most: 1 + next(12), del: next(4),
		fill: strings.Repeat("f", next(20)), bad: next(3) == 0,
		cuts: []int{1 << 20, 1 << 20, 8, 8, 1}[next(5)],
		wear: []int{1, 1, 6, 30}[next(4)],
	}
	if next(4) == 0 {
		k.keys, k.most = 60, 40
	}
	return k
}

// pairs are some pairs, each one of another key.
func (k kind) pairs(next func(n int) int) []api.Pair {
	var l []api.Pair
	for range 1 + next(k.most) {
		p := there(fmt.Sprint(k.fill, next(k.keys)), strings.Repeat("v", next(k.value+1)))
		if next(5) < k.del {
			p = gone(p.Key)
		}
		if !slices.ContainsFunc(l, func(x api.Pair) bool { return x.Key == p.Key }) {
			l = append(l, p)
		}
	}
	return l
}

// row is a store and its model, that the same is told.
type row struct {
	t    *testing.T
	next func(n int) int
	kind kind
	d    *nor.Device
	s    *Store
	m    *model
	bad  int
}

// newRow is a row of calls on a new device.
func newRow(t *testing.T, seed uint32) *row {
	r := &row{t: t, next: chance(seed)}
	r.kind = kindOf(r.next)
	r.d = device(t, r.kind.g)
	other := device(t, r.kind.g)
	for i := range r.kind.g.Sectors {
		for range r.next(r.kind.wear) {
			good(t, r.d.Erase(i))
			good(t, other.Erase(i))
		}
	}
	r.s, r.m = opened(t, r.d), newModel(t, other)
	return r
}

// content is what stands on a device.
func content(t *testing.T, d *nor.Device) []byte {
	t.Helper()
	var b []byte
	for i := range d.Geometry().Sectors {
		x, err := d.Read(at(i, 0), d.Geometry().Size)
		good(t, err)
		b = append(b, x...)
	}
	return b
}

// alike holds the store, and what stands on its device, against its model.
func (r *row) alike() {
	r.t.Helper()
	t, d, s, m := r.t, r.d, r.s, r.m
	if d.Acts() != m.d.Acts() || d.IsOn() != m.d.IsOn() || s.Gone() != m.gone() {
		t.Fatalf("%d acts, on %t, gone %t, not %d, %t, %t", d.Acts(), d.IsOn(), s.Gone(), m.d.Acts(), m.d.IsOn(), m.gone())
	}
	if got, want := pairs(s), m.pairs(); !slices.Equal(got, want) {
		t.Fatalf("the tree has %v, not %v", got, want)
	}
	if got, want := s.Needed(), m.needed(-1); got != want {
		t.Fatalf("%d bytes are needed, not %d", got, want)
	}
	if !d.IsOn() {
		return
	}
	if !bytes.Equal(content(t, d), content(t, m.d)) {
		t.Fatal("something else stands on the device")
	}
	// What a store has that is gone isn't what stands there: of the put that was cut off it doesn't know.
	if !s.Gone() {
		holds(t, s, d, m.pairs()...)
	}
}

// befall does something to both devices.
func (r *row) befall() {
	acts, n, mask, sector := r.next(3+27*r.next(2)), r.next(120), byte(r.next(256)), r.next(r.kind.g.Sectors)
	spoil := r.kind.bad && r.bad < 2 && r.next(60) == 0
	off := r.next(r.kind.cuts*20) == 0
	cut := r.next(r.kind.cuts) == 0
	for _, d := range []*nor.Device{r.d, r.m.d} {
		if spoil {
			d.Spoil(sector)
		}
		if off {
			d.Off()
		}
		if cut {
			d.Cut(acts, n, mask)
		}
	}
	if spoil {
		r.bad++
	}
}

// again opens the store anew, on devices that are on.
func (r *row) again() {
	r.d.On()
	r.m.d.On()
	turns := r.m.turns
	r.s, r.m = opened(r.t, r.d), newModel(r.t, r.m.d)
	r.m.turns = turns
}

// step does one call on both.
func (r *row) step(told map[api.Errno]int) {
	r.befall()
	switch n := r.next(40); {
	case n == 0 || n < 20 && r.s.Gone():
		r.again()
	case n == 1:
		if got, want := r.s.Collect(), r.m.collect(); got != want {
			r.t.Fatalf("Collect: %v, not %v", got, want)
		}
	default:
		l := r.kind.pairs(r.next)
		acts := r.d.Acts()
		got, want := r.s.Put(l), r.m.put(l)
		if got != want {
			r.t.Fatalf("Put(%v): %v, not %v", l, got, want)
		}
		if n := r.d.Acts() - acts; n > Bound(r.kind.g) {
			r.t.Fatalf("%d acts for a put, more than %d", n, Bound(r.kind.g))
		}
		told[got]++
	}
	r.alike()
}

// P13.1, P13.2, P13.5: rows of all calls answer as the chapter's words say, do the same acts, at most as many as are bounded, and leave the same; what is there is at all times what a scan tells: through falls, bad sectors, and without room.
func TestRows(t *testing.T) {
	told := map[api.Errno]int{}
	var turns [4]int
	for seed := range 70 {
		t.Run(fmt.Sprint("row", seed), func(t *testing.T) {
			r := newRow(t, uint32(seed))
			for range 120 {
				r.step(told)
			}
			for i, n := range r.m.turns {
				turns[i] += n
			}
		})
	}
	for _, err := range []api.Errno{api.OK, api.ErrOff, api.ErrBad, api.ErrSpace} {
		if told[err] < 50 {
			t.Errorf("only %d puts were told %v", told[err], err)
		}
	}
	for i, n := range turns {
		if n < 3 {
			t.Errorf("only %d turns of kind %d", n, i)
		}
	}
}
