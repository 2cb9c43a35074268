package shelf

import (
	"bytes"
	"slices"
	"testing"

	"flint/api"
	"flint/nor"
	"flint/scan"
)

// put is a frame that was written.
type put struct {
	at      api.Place
	frame   []byte
	settled bool
}

// history is what was written through a shelf, and not erased, and what may be there beside it.
type history struct {
	t    *testing.T
	d    *nor.Device
	s    *Shelf
	seq  uint64
	next func(n int) int
	// Those that are there, and those that may be: an act on them was cut off.
	there, maybe []put
}

// newHistory is one of a new device.
func newHistory(t *testing.T, seed uint32) *history {
	d, s := fresh(t)
	return &history{t: t, d: d, s: s, next: chance(seed)}
}

// did does a call, and tells whether all of it was done, and whether it was cut off.
func (h *history) did(call func() api.Errno) (whole, cut bool) {
	wasOn := h.d.IsOn()
	err := call()
	return err == api.OK, err == api.ErrOff && wasOn
}

// write writes a frame, and tells whether it did.
func (h *history) write(more int) bool {
	h.seq++
	x := put{frame: frame(h.t, h.seq, more)}
	whole, cut := h.did(func() api.Errno {
		p, err := h.s.Write(x.frame, h.seq)
		x.at = p
		return err
	})
	if whole {
		h.there = append(h.there, x)
	}
	if cut {
		h.maybe = append(h.maybe, x)
	}
	return whole
}

// flag programs a flag over one of those that were written.
func (h *history) flag(n, state int) {
	if n >= len(h.there) {
		return
	}
	x := &h.there[n]
	whole, cut := h.did(func() api.Errno { return h.s.Flag(x.at, state) })
	if state == api.Settled {
		x.settled = x.settled || whole
		return
	}
	if cut {
		h.maybe = append(h.maybe, *x)
	}
	if whole || cut {
		h.there = slices.Delete(h.there, n, n+1)
	}
}

// erase erases a sector.
func (h *history) erase(sector int) {
	whole, cut := h.did(func() api.Errno { return h.s.Erase(sector) })
	if !whole && !cut {
		return
	}
	for _, x := range h.there {
		if cut && int(real(x.at)) == sector {
			h.maybe = append(h.maybe, x)
		}
	}
	h.there = slices.DeleteFunc(h.there, func(x put) bool { return int(real(x.at)) == sector })
}

// same tells whether what was found is what was put.
func (h *history) same(f api.Found, x put) bool {
	b, err := h.d.Read(f.At, f.Size)
	return err == api.OK && len(b) == len(x.frame) && bytes.Equal(b[1:], x.frame[1:])
}

// holds fails the test, if a scan doesn't find all that is there, or what can't be there.
func (h *history) holds() {
	h.t.Helper()
	sectors, err := scan.All(h.d)
	good(h.t, err)
	var found []api.Found
	for _, x := range sectors {
		found = append(found, x.Found...)
	}
	for _, x := range h.there {
		n := slices.IndexFunc(found, func(f api.Found) bool { return f.At == x.at })
		if n < 0 || !h.same(found[n], x) || x.settled && !found[n].Settled {
			h.t.Fatalf("%+v isn't found among %+v", x, found)
		}
		found = slices.Delete(found, n, n+1)
	}
	for _, f := range found {
		if !slices.ContainsFunc(h.maybe, func(x put) bool { return h.same(f, x) }) {
			h.t.Fatalf("%+v is found, and wasn't written, or was erased", f)
		}
	}
}

// P12.3: what was written, and not erased, is found by a scan, through rows of calls, falls and bad sectors; by the same shelf on, or by a new one.
func TestFound(t *testing.T) {
	written := 0
	for seed := range 200 {
		h := newHistory(t, uint32(seed))
		for range 300 {
			switch h.next(16) {
			case 0, 1, 2, 3, 4, 5, 6, 7:
				h.write(h.next(100))
			case 8, 9:
				h.flag(h.next(len(h.there)+1), []int{api.Settled, api.Settled, api.Obsolete}[h.next(3)])
			case 10, 11, 12:
				h.erase(h.next(6))
			case 13:
				h.d.Cut(h.next(6), h.next(50), byte(h.next(256)))
			case 14:
				if h.next(40) == 0 {
					h.d.Spoil(h.next(6))
				}
			default:
				if h.next(6) == 0 {
					h.d.Off()
				}
			}
			if !h.d.IsOn() {
				if h.d.On(); h.next(2) == 0 {
					h.s, _ = shelfOf(t, h.d)
				}
			}
			h.holds()
		}
		written += len(h.there)
	}
	if written < 1000 {
		t.Errorf("only %d frames are there at the end", written)
	}
}

// story is a row of calls: three sectors are opened, flags are programmed, one sector is erased and written again.
func (h *history) story() {
	for i := range 14 {
		h.write(20 * (i % 5))
	}
	h.flag(3, api.Settled)
	h.flag(2, api.Obsolete)
	h.erase(0)
	for i := range 30 {
		h.write(25 * (i % 4))
	}
	h.erase(1)
	h.erase(0)
}

// P12.3: whichever act of a row is cut off, and wherever: what was written ahead is found, and what is written behind it, by the same shelf on, or by a new one.
func TestEachActCutOff(t *testing.T) {
	h := newHistory(t, 1)
	h.story()
	h.holds()
	acts := h.d.Acts()
	for n := range acts {
		for _, whole := range []int{0, 1, 3, 7, 8, 20, 33, 70, 300, 511, 512} {
			for _, mask := range []byte{0, 64, 129, 255} {
				h := newHistory(t, 1)
				h.d.Cut(n, whole, mask)
				h.rowCutOff(whole%2 == 0)
				if t.Failed() {
					t.Fatalf("act %d cut off behind %d bytes, mask %d", n, whole, mask)
				}
			}
		}
	}
	if acts < 40 {
		t.Errorf("only %d acts", acts)
	}
}

// rowCutOff is the row of which an act is cut off, and another row behind that.
func (h *history) rowCutOff(anew bool) {
	h.t.Helper()
	h.story()
	h.d.On()
	h.holds()
	if anew {
		h.s, _ = shelfOf(h.t, h.d)
	}
	for sector, x := range h.s.Infos() {
		if x.Class == api.Dirty {
			h.erase(sector)
		}
	}
	blank := countBlank(h.s)
	for i := range 12 {
		if !h.write(i) && blank > 0 {
			h.t.Errorf("write %d behind the fall fails", i)
		}
	}
	h.holds()
}
