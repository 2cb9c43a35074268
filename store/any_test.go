package store

import (
	"math"
	"slices"
	"testing"

	"flint/api"
	"flint/head"
	"flint/nor"
	"flint/rec"
	"flint/ring"
	"flint/scan"
)

// someItem is an item that may be, of numbers and keys that others have, too.
func someItem(next func(n int) int, p api.Place) api.Item {
	numbers := []uint64{0, 1, 2, 3, 4, 5, 1 << 40, math.MaxUint64 - 1, math.MaxUint64}
	x := api.Item{
		Seq: numbers[next(len(numbers))], Ver: numbers[next(len(numbers))], Count: 1 + next(3), Next: p,
		Gone: next(4) == 0, Key: []string{"a", "b", "c", "\xff", "dddddddddddddddddddddddddddddddddddddddddddddddd"}[next(5)],
	}
	x.Index = next(x.Count)
	if next(3) == 0 {
		x.Next = at(next(255), next(65536))
	}
	if !x.Gone {
		x.Value = "vvvvvvvvvvvvvvvvvvvvvvvvvvvvvvvvvvvvvvvvvvvvvvvvvvvvvvvvvvvvvvvv"[:next(65)]
	}
	return x
}

// scribble programs anything on a device: heads, items, any bytes.
func scribble(t *testing.T, d *nor.Device, next func(n int) int) {
	t.Helper()
	g := d.Geometry()
	for sector := range g.Sectors {
		h := head.Of(g)
		if next(6) > 0 {
			d.Program(at(sector, 0), h[:])
		}
		for p := 8; next(12) > 0; {
			w, err := ring.Put(someItem(next, at(sector, p)))
			good(t, err)
			f, err := rec.Put(w)
			good(t, err)
			f[0] &= []byte{255, 255, rec.Flag(api.Settled), rec.Flag(api.Settled), rec.Flag(api.Obsolete)}[next(5)]
			if d.Program(at(sector, p), f) != api.OK {
				break
			}
			p += len(f)
		}
		if next(6) == 0 {
			d.Program(at(sector, next(g.Size)), []byte{byte(next(256)), byte(next(256))})
		}
	}
}

// P13.1: a device on which others have written opens, and all calls end (R6): whatever numbers there are, and whatever is written behind the store's back, or befalls it.
func TestAnyDevice(t *testing.T) {
	whole := 0
	for seed := range 400 {
		next := chance(uint32(seed))
		d := device(t, small)
		scribble(t, d, next)
		s := opened(t, d)
		if !slices.Equal(pairs(s), scanned(t, d)) {
			t.Fatalf("device %d: %v, not %v", seed, pairs(s), scanned(t, d))
		}
		for range 30 {
			switch next(12) {
			case 0:
				d.Spoil(next(6))
			case 1:
				d.Cut(next(20), next(100), byte(next(256)))
			case 2:
				s.Collect()
			case 3:
				scribble(t, d, next)
			case 4:
				d.Program(at(next(6), next(400)), slices.Repeat([]byte{byte(next(256))}, next(60)))
			case 5:
				d.Erase(next(6))
			case 6:
				if d.On(); next(2) == 0 {
					s = opened(t, d)
				}
			default:
				x := someItem(next, 0)
				if s.Put([]api.Pair{{Key: x.Key, Value: x.Value, Gone: x.Gone}}) == api.OK {
					whole++
				}
			}
			s.Needed()
			s.Gone()
			pairs(s)
		}
	}
	if whole < 300 {
		t.Errorf("only %d puts", whole)
	}
}

// P13.2: behind the greatest number there is none: a store that finds it opens, and its calls end.
func TestGreatestNumber(t *testing.T) {
	d, s := fresh(t)
	good(t, s.Put([]api.Pair{there("a", "1")}))
	raw(t, d, at(0, 42), api.Item{Seq: math.MaxUint64, Ver: 2, Count: 1, Next: at(0, 42), Key: "b"})
	u := opened(t, d)
	holds(t, u, d, there("a", "1"), there("b", ""))
	for range 100 {
		u.Put([]api.Pair{there("c", "3"), long("d")})
	}
	l, err := scan.All(d)
	if good(t, err); len(l) != 6 || u.Gone() {
		t.Error(len(l), u.Gone())
	}
}
