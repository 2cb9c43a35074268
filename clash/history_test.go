package clash

import (
	"fmt"
	"math"
	"testing"

	"flint/api"
	"flint/tree"
	"flint/view"
)

// historyOf is a history of writes of one key each, that come one behind the other.
func historyOf(keys ...string) *History {
	h := New()
	for _, key := range keys {
		h.Add(wrote(key))
	}
	return h
}

// viewOf is a view that has read keys.
func viewOf(reads ...string) *view.View {
	v := view.New(tree.New().Set("a", "1").Set("b", "2"))
	for _, key := range reads {
		v.Get(key)
	}
	return v
}

// asked fails the test, if a history answers anything else of a view.
func asked(t *testing.T, h *History, since uint64, v *view.View, clashes, known bool) {
	t.Helper()
	is, all := h.Clash(since, v)
	if is != clashes || all != known {
		t.Errorf("since %d: %t, %t, not %t, %t", since, is, all, clashes, known)
	}
}

// counts fails the test, if a history hasn't these numbers.
func counts(t *testing.T, h *History, now uint64, n int) {
	t.Helper()
	if h.Now() != now || h.Len() != n {
		t.Errorf("Now %d, Len %d, not %d, %d", h.Now(), h.Len(), now, n)
	}
}

// P21.1 (R1): a nil history has nothing, and takes nothing.
func TestNilHistory(t *testing.T) {
	var h *History
	for _, number := range []uint64{0, 1, 9, math.MaxUint64} {
		for _, v := range []*view.View{nil, viewOf(), viewOf("a")} {
			asked(t, h, number, v, false, true)
		}
		if n := h.Add(wrote("a")); n != 0 {
			t.Error(n)
		}
		h.Forget(number)
		counts(t, h, 0, 0)
	}
}

// P21.1: a new history has no writes, and none of them was forgotten; nor can any be.
func TestNew(t *testing.T) {
	h := New()
	for _, number := range []uint64{0, 1, 9, math.MaxUint64} {
		counts(t, h, 0, 0)
		asked(t, h, number, viewOf("a"), false, true)
		asked(t, h, number, nil, false, true)
		h.Forget(number)
	}
	if n := h.Add(wrote("a")); n != 1 {
		t.Error("the first ones have the number", n)
	}
	asked(t, h, 0, viewOf("a"), true, true)
}

// P21.1: what is added comes next, each time of one number, of however many keys it is, of none, too.
func TestAdd(t *testing.T) {
	h := New()
	for i, writes := range [][]api.Pair{wrote("a"), nil, wrote("b", "c", "d"), {}, wrote("a", "a"), nil, wrote(texts()...)} {
		if n := h.Add(writes); n != uint64(i)+1 {
			t.Errorf("number %d, not %d", n, i+1)
		}
		counts(t, h, uint64(i)+1, i+1)
	}
	for since, clashes := range []bool{true, true, true, false, false, false, false, false} {
		asked(t, h, uint64(since), viewOf("d"), clashes, true)
	}
}

// P21.1: those above a number count, not the one of that number itself; and all of them, wherever they stand.
func TestSince(t *testing.T) {
	h := historyOf("a", "b", "c", "b", "d", "e")
	for key, last := range map[string]uint64{"a": 1, "b": 4, "c": 3, "d": 5, "e": 6, "f": 0} {
		for since := range uint64(9) {
			asked(t, h, since, viewOf(key), since < last, true)
			asked(t, h, since, viewOf("0", key, "z"), since < last, true)
		}
		asked(t, h, math.MaxUint64, viewOf(key), false, true)
		asked(t, h, math.MaxUint64-1, viewOf(key), false, true)
		asked(t, h, 1<<63, viewOf(key), false, true)
	}
	counts(t, h, 6, 6)
}

// P21.1: each of many keys of one transaction counts, in any order.
func TestManyKeys(t *testing.T) {
	h := New()
	h.Add(wrote("z"))
	h.Add(wrote("m", "c", "x", "a", "c"))
	h.Add(wrote("y"))
	for _, key := range []string{"m", "c", "x", "a"} {
		asked(t, h, 1, viewOf(key), true, true)
		asked(t, h, 2, viewOf(key), false, true)
	}
	for _, key := range []string{"z", "b", "n", "", "aa", "ma"} {
		asked(t, h, 1, viewOf(key), false, true)
	}
}

// P21.1: what a view read are keys that it got, that weren't there, too, and ranges; not what it looked at, or wrote.
func TestWhatViewsRead(t *testing.T) {
	h := historyOf("b", "p")
	for i, c := range []struct {
		do   func(v *view.View)
		want bool
	}{
		{func(v *view.View) {}, false},
		{func(v *view.View) { v.Get("b") }, true},
		{func(v *view.View) { v.Get("p") }, true},
		{func(v *view.View) { v.Get("a") }, false},
		{func(v *view.View) { v.Look("b") }, false},
		{func(v *view.View) { v.Set("b", "3") }, false},
		{func(v *view.View) { v.Cut("b") }, false},
		{func(v *view.View) { v.Set("b", "3"); v.Get("b") }, true},
		{func(v *view.View) { v.Cut("b"); v.Get("b") }, true},
		{func(v *view.View) { v.Range("a", "b") }, false},
		{func(v *view.View) { v.Range("a", "b\x00") }, true},
		{func(v *view.View) { v.Range("b", "c") }, true},
		{func(v *view.View) { v.Range("b\x00", "p") }, false},
		{func(v *view.View) { v.Range("o", "q") }, true},
		{func(v *view.View) { v.Range("c", "a") }, false},
		{func(v *view.View) { v.Range("b", "b") }, false},
		{func(v *view.View) { v.Range("m", "n"); v.Range("", "\xff") }, true},
		{func(v *view.View) { v.Get("a"); v.Range("x", "z"); v.Range("c", "p") }, false},
	} {
		v := viewOf()
		c.do(v)
		is, known := h.Clash(0, v)
		if is != c.want || !known {
			t.Errorf("number %d: %t, %t", i, is, known)
		}
		if is != Clash(v.Reads(), v.Ranges(), wrote("b", "p")) {
			t.Errorf("number %d: Clash tells otherwise", i)
		}
	}
}

// P21.1: a nil view has read nothing; whether what is asked for is known is told all the same.
func TestNilView(t *testing.T) {
	h := historyOf("", "a", "b", "c")
	asked(t, h, 0, nil, false, true)
	h.Forget(2)
	for since, known := range []bool{false, false, true, true, true, true} {
		asked(t, h, uint64(since), nil, false, known)
	}
}

// P21.1: what was forgotten clashes no more; what is left does, also where it is told that others were forgotten; the numbers go on.
func TestForget(t *testing.T) {
	h := historyOf("a", "b", "c", "d", "e")
	h.Forget(3)
	counts(t, h, 5, 2)
	for since, known := range []bool{false, false, false, true, true, true, true} {
		asked(t, h, uint64(since), viewOf("a", "b", "c"), false, known)
		asked(t, h, uint64(since), viewOf("d"), since < 4, known)
		asked(t, h, uint64(since), viewOf("e"), since < 5, known)
	}
	asked(t, h, math.MaxUint64, viewOf("e"), false, true)
	if n := h.Add(wrote("a")); n != 6 {
		t.Error(n)
	}
	counts(t, h, 6, 3)
	asked(t, h, 5, viewOf("a"), true, true)
	asked(t, h, 6, viewOf("a"), false, true)
}

// P21.1: forgetting up to 0, or up to what was forgotten, forgets nothing.
func TestForgetLess(t *testing.T) {
	h := historyOf("a", "b", "c", "d")
	h.Forget(0)
	counts(t, h, 4, 4)
	asked(t, h, 0, viewOf("a"), true, true)
	for range 2 {
		for _, upTo := range []uint64{2, 1, 0, 2} {
			h.Forget(upTo)
			counts(t, h, 4, 2)
			asked(t, h, 1, viewOf("c"), true, false)
			asked(t, h, 2, viewOf("c"), true, true)
			asked(t, h, 3, viewOf("c"), false, true)
		}
	}
	h.Forget(3)
	counts(t, h, 4, 1)
	asked(t, h, 2, viewOf("c"), false, false)
	asked(t, h, 3, viewOf("d"), true, true)
}

// P21.1: at most all is forgotten, so that what comes later isn't, up to whatever number it was forgotten.
func TestForgetMore(t *testing.T) {
	for _, upTo := range []uint64{3, 4, 5, 1 << 32, 1 << 63, math.MaxUint64 - 1, math.MaxUint64} {
		h := historyOf("a", "b", "c")
		h.Forget(1)
		h.Forget(upTo)
		counts(t, h, 3, 0)
		asked(t, h, 2, viewOf("c"), false, false)
		asked(t, h, 3, viewOf("c"), false, true)
		if n := h.Add(wrote("d")); n != 4 {
			t.Error(n)
		}
		counts(t, h, 4, 1)
		asked(t, h, 2, viewOf("d"), true, false)
		asked(t, h, 3, viewOf("d"), true, true)
		asked(t, h, 4, viewOf("d"), false, true)
	}
}

// P21.1 (R3): what is handed in stays as it is, and whoever writes into it later changes nothing.
func TestNothingIsKept(t *testing.T) {
	h := New()
	writes := []api.Pair{{Key: "c", Value: "1"}, {Key: "a", Gone: true}, {Key: "b"}}
	was := fmt.Sprint(writes)
	h.Add(writes)
	if got := fmt.Sprint(writes); got != was {
		t.Errorf("%s, was %s", got, was)
	}
	for i := range writes {
		writes[i] = api.Pair{Key: "x"}
	}
	h.Add(writes[:1])
	clear(writes)
	_ = append(writes[:0], api.Pair{Key: "y"})
	for _, key := range []string{"a", "b", "c"} {
		asked(t, h, 0, viewOf(key), true, true)
		asked(t, h, 1, viewOf(key), false, true)
	}
	asked(t, h, 1, viewOf("x"), true, true)
	asked(t, h, 0, viewOf("", "y"), false, true)
}

// P21.1 (R3, R5): a view that is asked about is as it was, isn't kept, and is told the same again.
func TestViewStays(t *testing.T) {
	h := historyOf("a", "m", "b")
	v := viewOf("x", "a")
	v.Range("m", "n")
	v.Range("c", "d")
	v.Set("b", "3")
	state := func() string { return fmt.Sprint(v.Reads(), v.Ranges(), v.Writes()) }
	was := state()
	for range 3 {
		asked(t, h, 0, v, true, true)
		asked(t, h, 1, v, true, true)
		asked(t, h, 2, v, false, true)
		if state() != was {
			t.Errorf("%s, was %s", state(), was)
		}
	}
	v.Get("b")
	asked(t, h, 2, v, true, true)
	asked(t, h, 2, viewOf("a"), false, true)
	counts(t, h, 3, 3)
}

// P21.1: histories have nothing of each other.
func TestTwoHistories(t *testing.T) {
	g, h := historyOf("a"), historyOf("b")
	g.Add(wrote("c"))
	g.Forget(1)
	counts(t, g, 2, 1)
	counts(t, h, 1, 1)
	asked(t, g, 0, viewOf("b"), false, false)
	asked(t, h, 0, viewOf("a", "c"), false, true)
	asked(t, h, 0, viewOf("b"), true, true)
}
