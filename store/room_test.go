package store

import (
	"fmt"
	"strings"
	"testing"

	"flint/api"
)

// price is the price of all keys that are there, and of what is put.
func (h *history) price(l []api.Pair) int { return Price(h.have) + Price(l) }

// P13.3, P13.5: nothing is refused as long as the price is at most the capacity, whatever is put, and goes, and wherever it falls; and a put does no more acts than are bounded.
func TestRoom(t *testing.T) {
	near, fell := 0, 0
	for seed := range 200 {
		next := chance(uint32(500 + seed))
		k := kindOf(next)
		h := newHistory(t, k.g)
		for n := range 200 {
			l := k.pairs(next)
			for len(l) > 1 && h.price(l) > Capacity(k.g) {
				l = l[1:]
			}
			if h.price(l) > Capacity(k.g) {
				l = []api.Pair{gone(l[0].Key)}
			}
			price := h.price(l)
			if price > Capacity(k.g) {
				continue
			}
			if next(k.cuts) == 0 {
				h.d.Cut(next(30), next(150), byte(next(256)))
			}
			acts := h.d.Acts()
			switch err := h.put(l); err {
			case api.OK:
			case api.ErrOff:
				fell++
			default:
				t.Fatalf("row %d, put %d, of price %d of %d: %v", seed, n, price, Capacity(k.g), err)
			}
			if n := h.d.Acts() - acts; n > Bound(k.g) {
				t.Fatalf("%d acts for a put, more than %d", n, Bound(k.g))
			}
			if price > Capacity(k.g)-100 {
				near++
			}
		}
		h.holds()
	}
	if near < 1000 || fell < 1000 {
		t.Errorf("only %d puts near to the capacity, %d falls", near, fell)
	}
}

// P13.3: just the capacity, of keys of each size, is put, and put over and over, one key at a time; then one goes.
func TestJustTheCapacity(t *testing.T) {
	for size := 35; size <= api.MaxFrame; size += 3 {
		h := newHistory(t, small)
		for i := 0; Price(h.have)+2*size <= Capacity(small); i++ {
			key := fmt.Sprintf("%03d", i) + strings.Repeat("k", min(size-35, 45))
			good(t, h.put([]api.Pair{there(key, strings.Repeat("v", size-32-len(key)))}))
		}
		for i := range 150 {
			good(t, h.put([]api.Pair{h.have[i*7%len(h.have)]}))
		}
		if len(h.have) != Capacity(small)/size-1 {
			t.Errorf("%d keys of %d bytes", len(h.have), size)
		}
		good(t, h.put([]api.Pair{gone(h.have[0].Key)}))
		h.holds()
	}
}

// P13.3: one ring as great as there can be: all of the capacity at once; and the same again, though what is there and what is put would then be twice the capacity, may be refused, but leaves what is there.
func TestAllAtOnce(t *testing.T) {
	for _, g := range []api.Geometry{small, {Sectors: 7, Size: 512}, {Sectors: 20, Size: 512}, {Sectors: 8, Size: 4096}} {
		var l []api.Pair
		for i := 0; len(l) < api.MaxRing; i++ {
			p := there(fmt.Sprint("key", i), strings.Repeat("v", i%65))
			if Price(l)+Price([]api.Pair{p}) > Capacity(g) {
				break
			}
			l = append(l, p)
		}
		h := newHistory(t, g)
		good(t, h.put(l))
		h.holds()
		for range 5 {
			if err := h.put(l); err != api.OK && err != api.ErrSpace {
				t.Error(err)
			}
			h.holds()
		}
	}
}

// P13.3: without room ErrSpace is answered, and what is there stays; once enough of it is gone there is room again.
func TestFull(t *testing.T) {
	h := newHistory(t, small)
	n := 0
	for ; ; n++ {
		if err := h.put([]api.Pair{long(fmt.Sprint("key", n+100))}); err != api.OK {
			if err != api.ErrSpace {
				t.Fatal(err)
			}
			break
		}
		if n > 40 {
			t.Fatal("there is more room than there are bytes")
		}
	}
	if n*102 < Capacity(small)-102 {
		t.Errorf("only %d keys", n)
	}
	h.holds()
	for range 3 {
		acts := h.d.Acts()
		if err := h.put([]api.Pair{long("another")}); err != api.ErrSpace || h.d.Acts()-acts > Bound(small) {
			t.Error(err, h.d.Acts()-acts)
		}
	}
	// What may not be put is refused for that, and does no act.
	acts := h.d.Acts()
	for _, l := range [][]api.Pair{nil, {there("", "")}, {{Key: "a", Value: "1", Gone: true}}, {gone("a"), gone("a")}, many(256)} {
		if err := h.put(l); err != api.ErrArg || h.d.Acts() != acts {
			t.Error(err, h.d.Acts()-acts)
		}
	}
	h.holds()
	// A store of which nothing fits any more may be opened, and have what it has.
	h.again()
	h.holds()
	for i := range n {
		h.put([]api.Pair{gone(fmt.Sprint("key", i+100))})
	}
	for range 60 {
		h.s.Collect()
	}
	h.holds()
	if h.price([]api.Pair{long("another")}) <= Capacity(small) {
		good(t, h.put([]api.Pair{long("another")}))
	}
}

// P13.4, DOC's example 7: wear differs by a bound, if one key is put over and over beside others that stay; all sectors are erased.
func TestWear(t *testing.T) {
	for _, g := range []api.Geometry{small, {Sectors: 9, Size: 777}, {Sectors: 12, Size: 512}} {
		for _, cold := range []int{0, 1, 5, 8, 100} {
			h := newHistory(t, g)
			for i := 0; i < cold; i++ {
				if p := []api.Pair{there(fmt.Sprint("cold", i), strings.Repeat("c", i*17%65))}; h.price(p) <= Capacity(g)-200 {
					good(t, h.put(p))
				}
			}
			most := 0
			for i := range 1500 {
				good(t, h.put([]api.Pair{there("hot", strings.Repeat("h", i%65))}))
				most = max(most, h.wear())
			}
			if most > api.MaxWear {
				t.Errorf("%v, %d that stay: wear differs by %d", g, cold, most)
			}
			for i := range g.Sectors {
				if h.d.Wear(i) == 0 {
					t.Errorf("%v, %d that stay: sector %d is never erased", g, cold, i)
				}
			}
			h.holds()
		}
	}
}

// P13.4: for each time that the device went off wear differs by 2 more at most.
func TestWearThroughFalls(t *testing.T) {
	for seed := range 40 {
		next := chance(uint32(seed))
		k := kindOf(next)
		h := newHistory(t, k.g)
		for n := range 150 {
			if next(k.cuts) == 0 {
				h.d.Cut(next(30), next(150), byte(next(256)))
			}
			h.put(k.pairs(next))
			if next(2*k.cuts) == 0 {
				h.d.Off()
				h.again()
			}
			if got := h.wear(); got > api.MaxWear+2*h.d.Offs() {
				t.Fatalf("row %d, put %d: wear differs by %d, behind %d falls", seed, n, got, h.d.Offs())
			}
		}
	}
}

// P13.5: the first put that collects, which settles all that was put ahead of it, does no more acts than are bounded.
func TestBoundOfTheFirst(t *testing.T) {
	for _, g := range []api.Geometry{small, {Sectors: 20, Size: 1024}, {Sectors: 64, Size: 4096}} {
		h := newHistory(t, g)
		for n := 0; ; n++ {
			acts := h.d.Acts()
			good(t, h.put([]api.Pair{there(string(rune('a'+n%20)), "")}))
			// A put that doesn't collect writes an item, and a head at most.
			if did := h.d.Acts() - acts; did > 2 {
				if did > Bound(g) || did < n {
					t.Errorf("%v: %d acts for the put number %d, of %d", g, did, n, Bound(g))
				}
				break
			}
		}
		h.holds()
	}
}
