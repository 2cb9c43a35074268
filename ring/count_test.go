package ring

import (
	"math"
	"slices"
	"testing"

	"flint/api"
)

// found is a linked ring of n, as it is found where it stands; rings near to each other have other places.
func found(t *testing.T, seq uint64, n int) []api.Found {
	t.Helper()
	l, vers, at := pairs(n)
	for i := range at {
		at[i] += complex(0, float64(seq%1000))
	}
	var f []api.Found
	for i, x := range linked(t, seq, l, vers, at) {
		f = append(f, api.Found{At: at[i], Size: Size(x.Key, x.Value), Item: x})
	}
	return f
}

// all are n bools of one kind.
func all(n int, kind bool) []bool {
	return slices.Repeat([]bool{kind}, n)
}

// counted fails the test, if others count.
func counted(t *testing.T, what string, l []api.Found, want []bool) {
	t.Helper()
	if got := Count(l); !slices.Equal(got, want) {
		t.Errorf("%s: of %+v count %v, not %v", what, l, got, want)
	}
}

// settled are the same ones, those of these numbers settled.
func settled(l []api.Found, numbers ...int) []api.Found {
	l = slices.Clone(l)
	for _, n := range numbers {
		l[n].Settled = true
	}
	return l
}

// P7.1: of nothing nothing counts.
func TestCountOfNone(t *testing.T) {
	for _, l := range [][]api.Found{nil, {}} {
		if len(Count(l)) != 0 || len(Newest(l)) != 0 {
			t.Error(Count(l), Newest(l))
		}
	}
}

// P7.3: all of a linked ring count, where they stand.
func TestWholeCounts(t *testing.T) {
	for _, n := range []int{1, 2, 3, 4, 48, 254, 255} {
		counted(t, "a whole ring", found(t, 7, n), all(n, true))
		counted(t, "a whole ring, all settled", settled(found(t, 7, n), 0, n-1), all(n, true))
	}
}

// P7.3: without one of them none does, but for those that are settled.
func TestMissing(t *testing.T) {
	for _, n := range []int{1, 2, 3, 4, 48, 255} {
		for i := range n {
			l := slices.Delete(found(t, 7, n), i, i+1)
			counted(t, "one is missing", l, all(n-1, false))
			for s := range l {
				want := all(n-1, false)
				want[s] = true
				counted(t, "one is missing, one is settled", settled(l, s), want)
			}
		}
	}
	l := found(t, 7, 6)
	for bits := range 1 << 6 {
		var some []api.Found
		for i, f := range l {
			if bits>>i&1 == 1 {
				some = append(some, f)
			}
		}
		counted(t, "some of six", some, all(len(some), len(some) == 6))
	}
}

// P7.3: what stands elsewhere than the one ahead of it says isn't of a whole ring.
func TestElsewhere(t *testing.T) {
	for _, n := range []int{1, 2, 5} {
		for i := range n {
			for _, at := range []api.Place{0, 1, 2 + 8i, 254 + 65535i, -1, complex(math.NaN(), 0)} {
				l := found(t, 7, n)
				l[i].At = at
				counted(t, "elsewhere", l, all(n, false))
				l = found(t, 7, n)
				l[i].Item.Next = at
				counted(t, "leads elsewhere", l, all(n, false))
			}
		}
	}
	l := found(t, 7, 2)
	l[0].At, l[1].At = l[1].At, l[0].At
	counted(t, "each where the other one stood", l, all(2, false))
	l = found(t, 7, 3)
	l[0].At += 1
	l[2].Item.Next += 1
	counted(t, "moved, as the last one says", l, all(3, true))
}

// P7.1: what is nowhere is never where something leads.
func TestNowhere(t *testing.T) {
	nowhere := complex(math.NaN(), math.NaN())
	counted(t, "nowhere", []api.Found{{At: nowhere, Item: api.Item{Count: 1, Next: nowhere, Key: "a"}}}, all(1, false))
	minus := complex(math.Copysign(0, -1), math.Copysign(0, -1))
	counted(t, "-0 is 0", []api.Found{{At: 0, Item: api.Item{Count: 1, Next: minus, Key: "a"}}}, all(1, true))
}

// P7.1: those of another count, or of an index that is there twice, or beyond all, aren't of a whole ring.
func TestOtherMembers(t *testing.T) {
	for i := range 3 {
		for _, n := range []int{-1, 0, 1, 2, 4, 255, 256, math.MinInt, math.MaxInt} {
			l := found(t, 7, 3)
			l[i].Item.Count = n
			counted(t, "another count", l, all(3, false))
			for k := range l {
				l[k].Item.Count = n
			}
			counted(t, "another count of all", l, all(3, false))
			l = found(t, 7, 3)
			if l[i].Item.Index != n {
				l[i].Item.Index = n
				counted(t, "another index", l, all(3, false))
			}
			more := append(found(t, 7, 3), l[i])
			more[3].Item.Count = 3
			counted(t, "one more, of this index", more, all(4, false))
			more[3].Item.Count = 4
			counted(t, "one more, of another count", more, all(4, false))
		}
		twice := append(found(t, 7, 3), found(t, 7, 3)[i])
		counted(t, "one that is there twice", twice, all(4, false))
		counted(t, "a settled one that is there twice", settled(twice, i), []bool{i == 0, i == 1, i == 2, false})
	}
	l := found(t, 7, 2)
	l[1].Item.Index = 0
	counted(t, "two first ones", l, all(2, false))
	l = found(t, 7, 3)
	l[1] = l[0]
	counted(t, "three, one of them twice", l, all(3, false))
}

// P7.1: items of no count, or wrong indexes, aren't a whole ring by themselves.
func TestNoRing(t *testing.T) {
	for _, x := range []api.Item{{}, {Key: "a"}, {Count: -1}, {Index: -1}, {Count: 1, Index: -1}, {Count: 1, Index: 1}, {Count: 2, Index: 1}, {Count: 2, Index: 2}, {Count: math.MaxInt, Index: math.MaxInt}, {Count: math.MinInt, Index: math.MinInt}} {
		counted(t, "no ring", []api.Found{{Item: x}}, all(1, false))
		counted(t, "no ring, settled", []api.Found{{Item: x, Settled: true}}, all(1, true))
	}
	counted(t, "a ring of one at 0", []api.Found{{Item: api.Item{Count: 1}}}, all(1, true))
}

// P7.1: each ring is whole or not by itself, however many there are.
func TestRingsAlone(t *testing.T) {
	var l []api.Found
	var want []bool
	for seq := range 40 {
		n := seq%5 + 1
		f := found(t, uint64(seq)<<58|uint64(seq), n)
		if seq%3 == 0 {
			f = f[:n-1]
		}
		l, want = append(l, f...), append(want, all(len(f), seq%3 != 0)...)
	}
	counted(t, "many rings", l, want)
	other := found(t, 8, 2)
	mixed := append(found(t, 7, 2)[:1], other[1])
	counted(t, "halves of two rings", mixed, all(2, false))
}

// newest fails the test, if others are the newest ones.
func newest(t *testing.T, what string, l []api.Found, want ...int) {
	t.Helper()
	if got := Newest(l); !slices.Equal(got, want) {
		t.Errorf("%s: of %+v the newest are %v, not %v", what, l, got, want)
	}
}

// one is a settled one of a key.
func one(key string, ver, seq uint64) api.Found {
	return api.Found{Settled: true, Item: api.Item{Key: key, Ver: ver, Seq: seq}}
}

// P7.1: the newest has the greatest version; of several of it the greatest ring, and then the first one there is.
func TestNewest(t *testing.T) {
	newest(t, "one", []api.Found{one("a", 0, 0)}, 0)
	newest(t, "the version", []api.Found{one("a", 3, 9), one("a", 4, 1), one("a", 2, 20)}, 1)
	newest(t, "the ring", []api.Found{one("a", 4, 8), one("a", 4, 7), one("a", 4, 9), one("a", 3, 30)}, 2)
	newest(t, "the first one", []api.Found{one("a", 3, 10), one("a", 4, 9), one("a", 4, 9), one("a", 4, 9)}, 1)
	newest(t, "great numbers", []api.Found{one("a", 1, 1), one("a", math.MaxUint64, 0), one("a", 1<<63, 5), one("b", 0, 1<<63), one("b", 0, math.MaxUint64), one("b", 0, 1)}, 1, 4)
	newest(t, "rising, whatever the keys are", []api.Found{one("z", 1, 1), one("a", 1, 2), one("", 1, 3), one("z", 0, 4), one("m\x00", 1, 5), one("m", 1, 6)}, 0, 1, 2, 4, 5)
	gone := one("a", 5, 5)
	gone.Item.Gone = true
	newest(t, "one that is gone", []api.Found{one("a", 4, 9), gone, one("b", 1, 1)}, 1, 2)
}

// P7.1: what doesn't count isn't the newest.
func TestNewestCounts(t *testing.T) {
	late := one("a", 99, 99)
	late.Settled = false
	newest(t, "one that doesn't count", []api.Found{late, one("a", 3, 3)}, 1)
	newest(t, "none that counts", []api.Found{late})
	ring := found(t, 77, 4)
	for i := range ring {
		ring[i].Item.Key = "a"
		ring[i].Item.Ver = uint64(50 + i%3)
	}
	newest(t, "a whole ring", append([]api.Found{one("a", 9, 99)}, ring...), 3)
	newest(t, "a ring that isn't", append([]api.Found{one("a", 9, 99)}, ring[:3]...), 0)
	newest(t, "a ring that isn't, settled in part", append([]api.Found{one("a", 9, 99)}, settled(ring[:3], 1)...), 2)
}

// P7.1 (R3, R5): what is handed in stays as it was, and the same is answered again, in new memory.
func TestFoundStays(t *testing.T) {
	l := append(found(t, 7, 5), found(t, 8, 3)[1:]...)
	slices.Reverse(l)
	was := slices.Clone(l)
	counts, numbers := Count(l), Newest(l)
	for range 50 {
		if !slices.Equal(Count(l), counts) || !slices.Equal(Newest(l), numbers) {
			t.Fatal("another answer")
		}
	}
	again := Count(l)
	clear(again)
	clear(Newest(l))
	if !slices.Equal(l, was) || !slices.Equal(Count(l), counts) || !slices.Equal(Newest(l), numbers) {
		t.Error("what was handed in is changed, or answers share memory")
	}
}

// some are any that were found: parts of rings, some of them changed or settled.
func some(t *testing.T, next func(n int) int) []api.Found {
	var l []api.Found
	for range next(4) {
		f := found(t, uint64(next(4)), next(4)+1)
		for i := range f {
			f[i].Item.Key = text(next(3))
			f[i].Item.Ver = uint64(next(4))
			f[i].Settled = next(8) == 0
		}
		switch next(8) {
		case 0:
			f = f[next(len(f)):]
		case 1:
			f[next(len(f))].At = f[next(len(f))].At
		case 2:
			f[next(len(f))].Item.Next = f[next(len(f))].At
		case 3:
			f[next(len(f))].Item.Count = next(5)
		case 4:
			f[next(len(f))].Item.Index = next(6) - 1
		case 5:
			f = append(f, f[next(len(f))])
		}
		l = append(l, f...)
	}
	return l
}

// counts tells by the chapter's words whether one of those that were found counts.
func counts(l []api.Found, n int) bool {
	if l[n].Settled {
		return true
	}
	var ring []api.Found
	for _, f := range l {
		if f.Item.Seq == l[n].Item.Seq {
			ring = append(ring, f)
		}
	}
	for _, f := range ring {
		if f.Item.Count != len(ring) || f.Item.Index < 0 || f.Item.Index >= len(ring) {
			return false
		}
		behind := 0
		for _, g := range ring {
			if g.Item.Index == (f.Item.Index+1)%len(ring) {
				behind++
				if g.At != f.Item.Next {
					return false
				}
			}
		}
		if behind != 1 {
			return false
		}
	}
	return true
}

// isNewest tells by the chapter's words whether one of those that were found is the newest of its key.
func isNewest(l []api.Found, n int) bool {
	x := l[n].Item
	for i, f := range l {
		y := f.Item
		if i == n || y.Key != x.Key || !counts(l, i) {
			continue
		}
		if y.Ver > x.Ver || y.Ver == x.Ver && (y.Seq > x.Seq || y.Seq == x.Seq && i < n) {
			return false
		}
	}
	return counts(l, n)
}

// P7.1: of any that were found those count, and are the newest, that the chapter's words say.
func TestAnyFound(t *testing.T) {
	next := chance(3)
	whole, parts := 0, 0
	for range 20000 {
		l := some(t, next)
		want, numbers := make([]bool, len(l)), []int(nil)
		for n := range l {
			want[n] = counts(l, n)
			if isNewest(l, n) {
				numbers = append(numbers, n)
			}
			if want[n] && !l[n].Settled {
				whole++
			} else if !want[n] {
				parts++
			}
		}
		counted(t, "any", l, want)
		newest(t, "any", l, numbers...)
	}
	if whole < 5000 || parts < 5000 {
		t.Errorf("only %d of whole rings, %d of others", whole, parts)
	}
}

// P7.4: the order in which items were found changes nothing of which ones count.
func TestOrder(t *testing.T) {
	next := chance(4)
	for range 3000 {
		l := some(t, next)
		was := Count(l)
		order := make([]int, len(l))
		for i := range order {
			order[i] = i
		}
		for range 8 {
			for i := range order {
				k := next(i + 1)
				order[i], order[k] = order[k], order[i]
			}
			turned, want := make([]api.Found, len(l)), make([]bool, len(l))
			for i, n := range order {
				turned[i], want[i] = l[n], was[n]
			}
			counted(t, "turned", turned, want)
		}
	}
}

// P7.4: in all orders of a ring of five all count; of four of them none does.
func TestAllOrders(t *testing.T) {
	l := found(t, 7, 5)
	var turn func(n int)
	turn = func(n int) {
		if n == len(l) {
			counted(t, "in any order", l, all(5, true))
			counted(t, "four in any order", l[:4], all(4, false))
			return
		}
		for i := n; i < len(l); i++ {
			l[n], l[i] = l[i], l[n]
			turn(n + 1)
			l[n], l[i] = l[i], l[n]
		}
	}
	turn(0)
}
