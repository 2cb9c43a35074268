package pick

import (
	"math"
	"slices"
	"testing"

	"flint/api"
)

// calls are all those that answer a sector, by name.
var calls = []struct {
	name string
	call func(l []api.Info) (int, bool)
}{
	{"Write", Write}, {"Erase", Erase}, {"Oldest", Oldest}, {"AtOnce", AtOnce},
}

// want holds what all calls answer of a list against what they are to: -1 is that there is no sector.
func want(t *testing.T, l []api.Info, write, erase, oldest, atOnce int) {
	t.Helper()
	for i, n := range []int{write, erase, oldest, atOnce} {
		got, ok := calls[i].call(l)
		if got != max(n, 0) || ok != (n >= 0) {
			t.Errorf("%s of %+v: %d, %t, not %d", calls[i].name, l, got, ok, n)
		}
	}
}

// live are live sectors of a wear, with something needed, the first one the youngest.
func live(wear ...int) []api.Info {
	var l []api.Info
	for i, w := range wear {
		l = append(l, api.Info{Class: api.Live, Wear: w, Age: uint64(100 - i), Need: 1})
	}
	return l
}

// P11.1 The chapter's example, and nothing at all.
func TestExample(t *testing.T) {
	want(t, []api.Info{{Class: api.Blank, Wear: 3}, {Class: api.Blank, Wear: 2}}, 1, -1, -1, -1)
	want(t, nil, -1, -1, -1, -1)
	want(t, []api.Info{}, -1, -1, -1, -1)
}

// P11.1 Write: blank, not held, of the least wear, of several the lowest number; nothing else of a sector plays a part.
func TestWrite(t *testing.T) {
	for i, x := range []struct {
		l []api.Info
		n int
	}{
		{[]api.Info{{}}, 0},
		{[]api.Info{{Held: true}}, -1},
		{[]api.Info{{Class: api.Live}}, -1},
		{[]api.Info{{Class: api.Dirty}}, -1},
		{[]api.Info{{Class: -1}, {Class: 3}, {Class: math.MinInt}, {Class: math.MaxInt}}, -1},
		{[]api.Info{{Wear: 1, Held: true}, {Wear: 9}, {Wear: 8}, {Wear: 8}}, 2},
		{[]api.Info{{Wear: 2, Class: api.Live}, {Wear: 2, Class: api.Dirty}, {Wear: 3}}, 2},
		{[]api.Info{{Wear: 2, Age: 9, Need: 9, Open: true}, {Wear: 2}}, 0},
		{[]api.Info{{Wear: 2, Age: 1}, {Wear: 1, Age: 9, Need: 9, Open: true}}, 1},
		{[]api.Info{{Wear: 0}, {Wear: -1}, {Wear: math.MaxInt}, {Wear: math.MinInt}}, 3},
	} {
		if n, ok := Write(x.l); n != max(x.n, 0) || ok != (x.n >= 0) {
			t.Error(i, n, ok)
		}
	}
}

// P11.1 Erase: which wear counts as near to the least one, up to one below MaxLead; the least one is that of all that aren't held, blank and open ones too.
func TestEraseNear(t *testing.T) {
	for i, x := range []struct {
		l []api.Info
		n int
	}{
		{live(5), 0},
		{live(5, 8), 1},
		{live(5, 9), 0},
		{live(9, 5), 1},
		{live(8, 6, 5, 9, 7), 4},
		{append(live(8, 9), api.Info{Wear: 5}), 0},
		{append(live(8, 9), api.Info{Wear: 6}), 1},
		{append(live(8, 9), api.Info{Class: api.Live, Wear: 5, Open: true}), 0},
		{append(live(8, 9), api.Info{Class: api.Dirty, Wear: 5, Open: true}), 0},
		{append(live(8, 9), api.Info{Wear: 5, Held: true}), 1},
		{append(live(8, 9), api.Info{Class: api.Live, Wear: 5, Held: true}), 1},
		{append(live(9, 10, 9, 10), api.Info{Wear: 5}), 2},
		{append(live(12, 11, 9, 10), api.Info{Wear: 5}), 2},
		{append(live(-1, 3), api.Info{Class: 7, Wear: 2, Need: 1, Age: 98}), 2},
		{live(math.MaxInt, math.MaxInt-3), 1},
		{live(math.MaxInt-3, math.MaxInt), 1},
		{live(math.MaxInt-4, math.MaxInt, math.MaxInt-1), 2},
		{live(math.MinInt, math.MaxInt), 0},
		{live(math.MaxInt, math.MinInt, math.MinInt+3, 0), 2},
		{append(live(math.MaxInt, math.MaxInt-1), api.Info{Wear: math.MinInt}), 1},
		{append(live(math.MaxInt, math.MaxInt, 4), api.Info{Wear: -1}), 2},
	} {
		if n, ok := Erase(x.l); n != x.n || !ok {
			t.Error(i, n, ok)
		}
	}
}

// P11.1 Erase: of those near to the least wear those of which nothing is needed go first, though others are older; beyond it they don't.
func TestEraseFree(t *testing.T) {
	for i, x := range []struct {
		l []api.Info
		n int
	}{
		{append(live(5, 5), api.Info{Class: api.Live, Wear: 5, Age: 200}), 2},
		{append(live(5, 5), api.Info{Class: api.Live, Wear: 8, Age: 200}), 2},
		{append(live(5, 5), api.Info{Class: api.Live, Wear: 9, Age: 1}), 1},
		{append(live(5, 5), api.Info{Class: api.Dirty, Wear: 8, Age: 200, Need: 3}), 2},
		{append(live(5, 5), api.Info{Class: api.Dirty, Wear: 9, Age: 1, Need: 3}), 1},
		{append(live(5, 5), api.Info{Class: api.Live, Wear: 5, Age: 200, Need: -1}), 1},
		{append(live(5, 5), api.Info{Class: 9, Wear: 5, Age: 200}), 2},
		{append(live(5, 5), api.Info{Class: 9, Wear: 5, Age: 200, Need: 1}), 1},
		{append(live(5, 5), api.Info{Class: api.Live, Wear: 5, Open: true}, api.Info{Class: api.Dirty, Wear: 5, Held: true}), 1},
		{append(live(5, 5), api.Info{Class: api.Dirty, Wear: 7, Age: 8}, api.Info{Class: api.Live, Wear: 6, Age: 7}, api.Info{Class: api.Live, Wear: 5, Age: 7}), 3},
		{append(live(9, 8), api.Info{Class: api.Dirty, Wear: 10}, api.Info{Wear: 4}), 1},
		{append(live(8, 8), api.Info{Class: api.Dirty, Wear: 8, Age: 200}, api.Info{Wear: 4}), 1},
	} {
		if n, ok := Erase(x.l); n != x.n || !ok {
			t.Error(i, n, ok)
		}
	}
}

// P11.1 Oldest goes by age alone, and AtOnce by wear alone, of those of which nothing is needed.
func TestOldestAtOnce(t *testing.T) {
	want(t, []api.Info{
		{Class: api.Live, Wear: 1, Age: 7, Need: 1},
		{Class: api.Live, Wear: 90, Age: 5, Need: 1},
		{Class: api.Dirty, Wear: 30, Age: 9, Need: 1},
		{Class: api.Live, Wear: 20, Age: 8},
		{Class: api.Live, Wear: 20, Age: 5},
		{Class: api.Live, Wear: 0, Age: 4, Open: true},
		{Class: api.Live, Wear: 0, Age: 4, Held: true},
		{Wear: 0, Age: 4},
	}, 7, 0, 1, 3)
	want(t, live(1, 2, 3), -1, 2, 2, -1)
	want(t, []api.Info{{Class: api.Live, Age: math.MaxUint64}, {Class: api.Live, Age: math.MaxUint64 - 1, Wear: -1}}, -1, 1, 1, 1)
	want(t, []api.Info{{Class: api.Live, Age: math.MaxUint64}, {Class: api.Live, Age: 1}}, -1, 1, 1, 0)
	want(t, []api.Info{{Class: api.Live, Age: math.MaxUint64, Need: -1}}, -1, 0, 0, -1)
	want(t, []api.Info{{Class: api.Dirty, Need: -1}, {Class: api.Dirty, Wear: math.MinInt, Need: math.MaxInt}}, -1, 1, 0, 1)
	want(t, []api.Info{{Class: api.Live, Open: true}, {Class: api.Dirty, Held: true}, {Class: 5, Open: true, Held: true}, {Held: true}}, -1, -1, -1, -1)
}

// P11.1 Of several that are the same the lowest number.
func TestLowest(t *testing.T) {
	for n := range 70 {
		l := make([]api.Info, 70)
		for i := range l {
			l[i] = api.Info{Wear: 1, Held: i < n}
		}
		want(t, l, n, -1, -1, -1)
		for i := range l {
			l[i] = api.Info{Class: api.Live, Wear: 1, Age: 2, Open: i < n}
		}
		want(t, l, -1, n, n, n)
	}
}

// P11.1 Blank and Lead.
func TestBlankLead(t *testing.T) {
	for i, x := range []struct {
		l           []api.Info
		blank, lead int
	}{
		{nil, 0, 0},
		{[]api.Info{}, 0, 0},
		{[]api.Info{{}}, 1, 0},
		{[]api.Info{{Wear: 7}}, 1, 0},
		{[]api.Info{{Wear: -7}, {Wear: -5}}, 2, 2},
		{[]api.Info{{Wear: 7, Open: true, Age: 1, Need: 1}, {Wear: 3, Held: true}, {Wear: 4}}, 2, 4},
		{[]api.Info{{Wear: 5, Held: true}, {Wear: 9, Class: api.Dirty}, {Wear: 1, Class: api.Live, Open: true}, {Wear: 12, Class: -1}}, 0, 11},
		{[]api.Info{{Wear: 0}, {Wear: math.MaxInt}}, 2, math.MaxInt},
		{[]api.Info{{Wear: -1}, {Wear: math.MinInt}}, 2, math.MaxInt},
		{live(16, 0, 3), 0, 16},
	} {
		if b, n := Blank(x.l), Lead(x.l); b != x.blank || n != x.lead {
			t.Error(i, b, n)
		}
	}
	Lead([]api.Info{{Wear: math.MinInt}, {Wear: math.MaxInt}})
}

// chance answers numbers that look like chance, the same ones each time.
func chance(x uint32) func(n int) int {
	return func(n int) int {
		x = x*1664525 + 1013904223
		return int(x>>8) % n
	}
}

// some are sectors that look like chance, with few kinds of all that plays a part.
func some(next func(n int) int, most int) []api.Info {
	var l []api.Info
	for range next(most + 1) {
		l = append(l, api.Info{Class: next(4), Open: next(5) == 0, Held: next(5) == 0, Wear: next(10), Age: uint64(next(5)), Need: next(3)})
	}
	return l
}

// keep are the numbers of a list of which the function holds.
func keep(l []api.Info, n []int, is func(s api.Info) bool) []int {
	var some []int
	for _, i := range n {
		if is(l[i]) {
			some = append(some, i)
		}
	}
	return some
}

// firstOf is the number that stands first, if a list's numbers are sorted by what the function tells; -1 of none.
func firstOf(l []api.Info, n []int, by func(s api.Info) int) int {
	if len(n) == 0 {
		return -1
	}
	n = slices.Clone(n)
	slices.SortStableFunc(n, func(i, j int) int { return by(l[i]) - by(l[j]) })
	return n[0]
}

func wear(s api.Info) int { return s.Wear }

func age(s api.Info) int { return int(s.Age) }

// model is what the chapter's words say of Write, Erase, Oldest and AtOnce.
func model(l []api.Info) (write, erase, oldest, atOnce int) {
	var all []int
	for i := range l {
		all = append(all, i)
	}
	may := keep(l, all, func(s api.Info) bool { return !(s.Class == api.Blank || s.Open || s.Held) })
	free := func(s api.Info) bool { return s.Need == 0 || s.Class == api.Dirty }
	write = firstOf(l, keep(l, all, func(s api.Info) bool { return s.Class == api.Blank && !s.Held }), wear)
	oldest, atOnce = firstOf(l, may, age), firstOf(l, keep(l, may, free), wear)
	if len(may) == 0 {
		return write, -1, oldest, atOnce
	}
	least := l[firstOf(l, keep(l, all, func(s api.Info) bool { return !s.Held }), wear)].Wear
	lowest := l[firstOf(l, may, wear)].Wear
	near := keep(l, may, func(s api.Info) bool { return s.Wear < least+4 })
	of := keep(l, near, free)
	if len(of) == 0 {
		of = near
	}
	if len(of) == 0 {
		of = keep(l, may, func(s api.Info) bool { return s.Wear == lowest })
	}
	return write, firstOf(l, of, age), oldest, atOnce
}

// P11.1 Any sectors, held against the chapter's words.
func TestModel(t *testing.T) {
	next := chance(11)
	for range 60000 {
		l := some(next, 9)
		write, erase, oldest, atOnce := model(l)
		want(t, l, write, erase, oldest, atOnce)
		if t.Failed() {
			return
		}
	}
	for range 300 {
		l := some(next, 64)
		write, erase, oldest, atOnce := model(l)
		want(t, l, write, erase, oldest, atOnce)
	}
}

// P11.2 If sectors are put into another order, the ones that are answered are the same, but for their numbers. (All have a wear and an age of their own here, so that no two are the same.)
func TestOrder(t *testing.T) {
	next := chance(12)
	for range 4000 {
		l := some(next, 12)
		for i := range l {
			l[i].Wear, l[i].Age = l[i].Wear*16+i, l[i].Age*16+uint64(i*7%13)
			if next(2) == 0 {
				l[i].Wear = i
			}
		}
		tellApart(l)
		m := slices.Clone(l)
		for i := range m {
			j := i + next(len(m)-i)
			m[i], m[j] = m[j], m[i]
		}
		for _, x := range calls {
			i, ok := x.call(l)
			j, also := x.call(m)
			if ok != also || ok && l[i] != m[j] {
				t.Fatalf("%s of %+v: %d, %t; of %+v: %d, %t", x.name, l, i, ok, m, j, also)
			}
		}
		if Blank(l) != Blank(m) || Lead(l) != Lead(m) {
			t.Fatalf("Blank and Lead of %+v: %d, %d; of %+v: %d, %d", l, Blank(l), Lead(l), m, Blank(m), Lead(m))
		}
	}
}

// tellApart gives each sector a wear and an age that no other one has.
func tellApart(l []api.Info) {
	wears, ages := map[int]struct{}{}, map[uint64]struct{}{}
	for i := range l {
		for _, ok := wears[l[i].Wear]; ok; _, ok = wears[l[i].Wear] {
			l[i].Wear++
		}
		for _, ok := ages[l[i].Age]; ok; _, ok = ages[l[i].Age] {
			l[i].Age++
		}
		wears[l[i].Wear], ages[l[i].Age] = struct{}{}, struct{}{}
	}
}

// P11.2 Two orders of sectors that differ only in what plays no part for a call: the lowest number, whichever way round.
func TestOrderOfSame(t *testing.T) {
	a, b := api.Info{Class: api.Live, Wear: 3, Age: 5}, api.Info{Class: api.Dirty, Wear: 3, Age: 5, Need: 4}
	want(t, []api.Info{a, b}, -1, 0, 0, 0)
	want(t, []api.Info{b, a}, -1, 0, 0, 0)
	a, b = api.Info{Class: api.Live, Wear: 3, Age: 5, Need: 1}, api.Info{Class: api.Live, Wear: 4, Age: 5, Need: 2}
	want(t, []api.Info{a, b}, -1, 0, 0, -1)
	want(t, []api.Info{b, a}, -1, 0, 0, -1)
	a, b = api.Info{Wear: 3, Age: 5, Open: true}, api.Info{Wear: 3, Age: 6}
	want(t, []api.Info{a, b}, 0, -1, -1, -1)
	want(t, []api.Info{b, a}, 0, -1, -1, -1)
}

// P11.1 What is handed in isn't changed (R3), and the same call answers the same again (R5).
func TestUnchanged(t *testing.T) {
	next := chance(13)
	for range 500 {
		l := some(next, 20)
		m := slices.Clone(l)
		for _, x := range calls {
			i, ok := x.call(l)
			j, also := x.call(l)
			if i != j || ok != also {
				t.Fatal(x.name, i, ok, j, also)
			}
		}
		if Blank(l) != Blank(l) || Lead(l) != Lead(l) || !slices.Equal(l, m) {
			t.Fatalf("%+v was %+v", l, m)
		}
	}
}
