package store

import (
	"fmt"
	"slices"
	"strings"
	"testing"

	"flint/api"
	"flint/nor"
)

// book is what is to be there: keys with their values, rising.
type book []api.Pair

// with is the book behind a put.
func (b book) with(l []api.Pair) book {
	have := slices.DeleteFunc(slices.Clone(b), func(x api.Pair) bool {
		return slices.ContainsFunc(l, func(p api.Pair) bool { return p.Key == x.Key })
	})
	for _, p := range l {
		if !p.Gone {
			have = append(have, p)
		}
	}
	slices.SortFunc(have, func(a, b api.Pair) int { return strings.Compare(a.Key, b.Key) })
	return have
}

// history is a store, and what is to be there.
type history struct {
	t    *testing.T
	d    *nor.Device
	s    *Store
	have book
}

// newHistory is one on a new device.
func newHistory(t *testing.T, g api.Geometry) *history {
	t.Helper()
	d := device(t, g)
	return &history{t: t, d: d, s: opened(t, d)}
}

// put puts pairs; if that was cut off, the device is on again, and the store opened anew. From then on all of it has to be there, or nothing.
func (h *history) put(l []api.Pair) api.Errno {
	h.t.Helper()
	err := h.s.Put(l)
	switch err {
	case api.OK:
		h.have = h.have.with(l)
	case api.ErrOff:
		h.again()
		if maybe := h.have.with(l); slices.Equal(pairs(h.s), maybe) {
			h.have = maybe
		}
	}
	if got := pairs(h.s); !slices.Equal(got, h.have) {
		h.t.Fatalf("behind %v: %v, not %v", err, got, h.have)
	}
	return err
}

// again opens the store anew.
func (h *history) again() {
	h.t.Helper()
	h.d.On()
	h.s = opened(h.t, h.d)
}

// holds fails the test, if something else is there, or stands on the device.
func (h *history) holds() {
	h.t.Helper()
	holds(h.t, h.s, h.d, h.have...)
	holds(h.t, opened(h.t, h.d), h.d, h.have...)
}

// wear is how much wear differs.
func (h *history) wear() int {
	least, most := h.d.Wear(0), h.d.Wear(0)
	for i := range h.d.Geometry().Sectors {
		least, most = min(least, h.d.Wear(i)), max(most, h.d.Wear(i))
	}
	return most - least
}

// story is a row of puts: rings of one, and of more, in one sector, and in two; keys come, change and go; sectors are collected again and again.
func (h *history) story(n int) {
	h.t.Helper()
	for i := range n {
		var l []api.Pair
		for k := range 1 + i%4 {
			l = append(l, there(fmt.Sprint("k", (i*3+k)%7), strings.Repeat(fmt.Sprint(i%10), 10+i*7%50)))
		}
		if i%3 == 1 {
			l[0] = gone(l[0].Key)
		}
		h.put(l)
	}
}

// P13.1: whichever act of a row is cut off, and wherever: what was put ahead is there, and all of the put that was cut off, or nothing; so it is from then on.
func TestEachActCutOff(t *testing.T) {
	const puts = 22
	h := newHistory(t, small)
	h.story(puts)
	acts := h.d.Acts()
	if least := h.d.Wear(0); acts < 90 || least == 0 || h.d.Offs() != 0 {
		t.Fatalf("%d acts, wear %d: the row collects too little", acts, least)
	}
	for n := range acts {
		for i, whole := range []int{0, 1, 5, 7, 8, 30, 60, 511} {
			h := newHistory(t, small)
			h.d.Cut(n, whole, []byte{0, 64, 191, 255}[(n+i)%4])
			h.story(puts)
			if h.d.Offs() != 1 {
				t.Fatalf("act %d isn't cut off", n)
			}
			h.holds()
		}
	}
}

// P13.1: the same, where the act behind a fall is cut off, too: while the store collects what the first fall left.
func TestTwoFalls(t *testing.T) {
	const puts = 30
	h := newHistory(t, small)
	h.story(puts)
	acts := h.d.Acts()
	for n := 1; n < acts; n += 3 {
		for second := range 14 {
			h := newHistory(t, small)
			h.d.Cut(n, 9*n%40, byte(n))
			for i := range 60 {
				offs := h.d.Offs()
				if h.step(i); offs == 0 && h.d.Offs() == 1 {
					h.d.Cut(second, 7*n%50, byte(n*second))
				}
				if h.d.Offs() == 2 && i > puts {
					break
				}
			}
			h.holds()
			if h.d.Offs() != 2 {
				t.Fatalf("acts %d and %d aren't cut off", n, second)
			}
		}
	}
}

// step is the put number i of another row.
func (h *history) step(i int) {
	h.t.Helper()
	l := []api.Pair{there(fmt.Sprint("k", i%5), strings.Repeat("v", i*11%60)), there("hot", strings.Repeat("h", 20+i%40))}
	if i%4 == 3 {
		l[0] = gone(l[0].Key)
	}
	h.put(l)
}

// P13.1, DOC's examples 4 and 5: a ring of five is cut off at its fifth record: none of it is there, if that isn't whole; else all of it.
func TestCutAtTheFifth(t *testing.T) {
	five := []api.Pair{there("a", "1"), there("b", "2"), there("c", "3"), there("d", "4"), there("e", "5")}
	for _, first := range []bool{true, false} {
		for n := range 36 {
			h := newHistory(t, small)
			acts := 4
			if h.put([]api.Pair{there("c", "0"), there("f", "6")}); first {
				h.again()
				acts = 5
			}
			h.d.Cut(acts, n, 0)
			if err := h.s.Put(five); err != api.ErrOff {
				t.Fatal(err)
			}
			h.again()
			if n >= 34 {
				h.have = h.have.with(five)
			}
			h.holds()
			h.put([]api.Pair{there("g", "7")})
			h.holds()
		}
	}
}

// P13.1: falls wherever they come, one behind the other, so that each may come while the store is at what the last one left.
func TestManyFalls(t *testing.T) {
	offs, oks := 0, 0
	for seed := range 60 {
		next := chance(uint32(7000 + seed))
		k := kindOf(next)
		h := newHistory(t, k.g)
		for range 200 {
			if next(3) > 0 {
				h.d.Cut(next(4+next(30)), next(150), byte(next(256)))
			}
			if h.put(k.pairs(next)) == api.OK {
				oks++
			}
			if next(30) == 0 {
				h.d.Off()
				h.again()
			}
		}
		h.holds()
		offs += h.d.Offs()
	}
	if offs < 2000 || oks < 2000 {
		t.Errorf("only %d falls, %d puts", offs, oks)
	}
}

// P13.1: falls and bad sectors.
func TestFallsAndBadSectors(t *testing.T) {
	bad, oks := 0, 0
	for seed := range 60 {
		next := chance(uint32(9000 + seed))
		k := kindOf(next)
		h := newHistory(t, k.g)
		for range 150 {
			if next(8) == 0 {
				h.d.Cut(next(20), next(150), byte(next(256)))
			}
			if next(70) == 0 {
				h.d.Spoil(next(k.g.Sectors))
			}
			switch h.put(k.pairs(next)) {
			case api.OK:
				oks++
			case api.ErrBad:
				bad++
			}
			if next(40) == 0 {
				h.d.Off()
				h.again()
			}
			if next(10) == 0 {
				h.holds()
			}
		}
		h.holds()
	}
	if bad < 50 || oks < 2000 {
		t.Errorf("only %d bad acts, %d puts", bad, oks)
	}
}

// P13.1, DOC's example 6: a sector comes to be bad as a put writes to it: ErrBad; the next one goes elsewhere. What stood there stays.
func TestBadAsWritten(t *testing.T) {
	for bad := range 6 {
		h := newHistory(t, small)
		h.put([]api.Pair{there("a", "1"), there("b", "2")})
		h.d.Spoil(bad)
		told := 0
		for i := range 80 {
			switch err := h.put([]api.Pair{there("b", fmt.Sprint(i)), there("c", strings.Repeat("c", i%60))}); err {
			case api.OK:
			case api.ErrBad:
				told++
			default:
				t.Fatal(err)
			}
			h.holds()
		}
		if told != 1 {
			t.Errorf("sector %d: ErrBad %d times", bad, told)
		}
	}
}

// P13.1: a ring that stands in two sectors, one of which comes to be bad ahead of its settling, is kept whole: the other sector isn't erased any more, by no store.
func TestRingInABadSector(t *testing.T) {
	for _, bad := range []int{0, 1} {
		h := newHistory(t, small)
		h.put([]api.Pair{there("a", "1"), long("x"), long("y"), long("z")})
		h.put([]api.Pair{long("b"), long("c"), long("d")})
		if got := found(t, h.d); sectorOf(got[4].At) != 0 || sectorOf(got[5].At) != 1 {
			t.Fatalf("%+v", got)
		}
		h.d.Spoil(bad)
		for i := range 300 {
			if err := h.put([]api.Pair{there("e", fmt.Sprint(i)), there("f", strings.Repeat("f", i%60))}); err != api.OK && (err != api.ErrBad || i > 9) {
				t.Fatal(i, err)
			}
			if i%50 == 49 {
				h.again()
			}
			h.holds()
		}
		if h.d.Wear(0) != 0 || h.d.Wear(1) != 0 || h.d.Wear(2) == 0 {
			t.Error(h.d.Wear(0), h.d.Wear(1), h.d.Wear(2))
		}
	}
}

// P13.1: the other sector of such a ring isn't erased in the turn in which that is found out, either.
func TestRingHeldAtOnce(t *testing.T) {
	for _, bad := range []int{0, 1} {
		h := newHistory(t, small)
		h.put([]api.Pair{there("a", "1"), long("x"), long("y"), long("z")})
		h.put([]api.Pair{long("b"), long("c"), long("d")})
		h.put([]api.Pair{long("e"), long("f"), long("g"), long("h")})
		if got := found(t, h.d); sectorOf(got[4].At) != 0 || sectorOf(got[6].At) != 1 || sectorOf(got[10].At) != 2 {
			t.Fatalf("%+v", got)
		}
		h.d.Spoil(bad)
		if err := h.s.Collect(); err != api.ErrSpace || h.d.Wear(0)+h.d.Wear(1) != 0 {
			t.Error(err, h.d.Wear(0), h.d.Wear(1))
		}
		h.holds()
	}
}

// P13.1: what is gone stays gone, as long as an older item of the key stands anywhere: in a sector that is bad, settled or not, too.
func TestGoneStaysGone(t *testing.T) {
	for _, settled := range []bool{true, false} {
		h := newHistory(t, small)
		h.put([]api.Pair{long("a"), long("b"), long("c"), long("d"), long("e")})
		if settled {
			if err := h.s.Collect(); err != api.ErrSpace {
				t.Fatal(err)
			}
		}
		h.d.Spoil(0)
		h.put([]api.Pair{there("x", "")})
		for _, key := range []string{"a", "b", "c"} {
			h.put([]api.Pair{gone(key)})
		}
		for i := range 200 {
			h.put([]api.Pair{there("hot", fmt.Sprint(i))})
			if i%40 == 0 {
				h.again()
			}
			h.holds()
		}
		if n := h.s.Needed(); n != 2*97+3*33+33+38 {
			t.Errorf("%d bytes are needed", n)
		}
	}
}

// P13.2: while a store goes on what it has is what a scan tells, and what a new store has, behind each put and each turn.
func TestAsFound(t *testing.T) {
	for seed := range 30 {
		next := chance(uint32(100 + seed))
		k := kindOf(next)
		h := newHistory(t, k.g)
		for range 60 {
			if next(6) == 0 {
				h.s.Collect()
			}
			h.put(k.pairs(next))
			h.holds()
			if u := opened(t, h.d); u.Needed() != h.s.Needed() {
				t.Fatalf("%d bytes are needed, not %d", h.s.Needed(), u.Needed())
			}
		}
	}
}

// P13.1: of keys that are gone nothing is kept, once nothing of them stands anywhere.
func TestNothingIsKeptOfWhatIsGone(t *testing.T) {
	h := newHistory(t, small)
	for i := range 500 {
		good(t, h.put([]api.Pair{long(fmt.Sprint("key", i))}))
		good(t, h.put([]api.Pair{gone(fmt.Sprint("key", i))}))
	}
	if most := 6 * 512 / 33; len(h.s.items) > most || len(h.s.newest) > most {
		t.Errorf("%d items, of %d keys", len(h.s.items), len(h.s.newest))
	}
	h.holds()
}
