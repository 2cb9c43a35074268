package tree

import (
	"fmt"
	"maps"
	"math"
	"slices"
	"strings"
	"testing"

	"flint/api"
)

// texts are keys of many kinds, rising by bytes.
func texts() []string {
	l := []string{
		"", "\x00", "\x00\x00", "\x00a", "\x01", " ", "/", "A", "D\x00\x00\x00\x01\x00\x00", "E\x00\x00\x00\x01a", "I\x00\x00\x00\x01",
		"Z", "a", "a\x00", "a\x00b", "a\xff", "aa", "aaa", "ab", "b", "ba", "z", "~", "\x7f", "\x80", "\xc3", "ä", "€", "\U0001f600", "\xfe", "\xff", "\xff\x00", "\xff\xff",
		strings.Repeat("k", 48), strings.Repeat("k", 48) + "\x00", strings.Repeat("k", 100000), strings.Repeat("k", 99999) + "l",
	}
	slices.Sort(l)
	return l
}

// short is a key or a value as a test tells it.
func short(s string) string {
	if len(s) > 60 {
		return fmt.Sprintf("%q and so on, %d bytes", s[:60], len(s))
	}
	return fmt.Sprintf("%q", s)
}

// chance answers numbers that look like chance, the same ones each time.
func chance(x uint32) func(n int) int {
	return func(n int) int {
		x = x*1664525 + 1013904223
		return int(x>>8) % n
	}
}

// pairsOf are a model's keys and values, rising.
func pairsOf(model map[string]string) []api.Pair {
	var l []api.Pair
	for _, key := range slices.Sorted(maps.Keys(model)) {
		l = append(l, api.Pair{Key: key, Value: model[key]})
	}
	return l
}

// within are those of a list that stand from one key on, up to another one.
func within(l []api.Pair, from, to string) []api.Pair {
	var some []api.Pair
	for _, p := range l {
		if from <= p.Key && p.Key < to {
			some = append(some, p)
		}
	}
	return some
}

// held fails the test, if a tree doesn't answer what a model says, when it is asked for these keys.
func held(t *testing.T, x *Tree, model map[string]string, keys []string) {
	t.Helper()
	l := pairsOf(model)
	if x.Len() != len(l) {
		t.Fatalf("Len %d, not %d", x.Len(), len(l))
	}
	for i := -2; i < len(l)+3; i++ {
		var want api.Pair
		there := i >= 0 && i < len(l)
		if there {
			want = l[i]
		}
		if p, ok := x.At(i); p != want || ok != there {
			t.Fatalf("At(%d) of %d: %s, %v", i, len(l), short(p.Key), ok)
		}
	}
	for _, key := range keys {
		want, there := model[key]
		if value, ok := x.Get(key); value != want || ok != there {
			t.Fatalf("Get(%s) = %s, %v, not %s, %v", short(key), short(value), ok, short(want), there)
		}
		rank, _ := slices.BinarySearchFunc(l, key, func(p api.Pair, key string) int { return strings.Compare(p.Key, key) })
		if got := x.Rank(key); got != rank {
			t.Fatalf("Rank(%s) = %d, not %d", short(key), got, rank)
		}
	}
	shaped(t, x)
}

// ranged fails the test, if a tree's ranges between these keys are others than a model's.
func ranged(t *testing.T, x *Tree, model map[string]string, keys []string) {
	t.Helper()
	l := pairsOf(model)
	for _, from := range keys {
		for _, to := range keys {
			if got := x.Range(from, to); !slices.Equal(got, within(l, from, to)) {
				t.Fatalf("Range(%s, %s) are %d, not %d", short(from), short(to), len(got), len(within(l, from, to)))
			}
		}
	}
}

// P10.1: the chapter's example.
func TestExample(t *testing.T) {
	x := New()
	a := x.Set("a", "1")
	b := a.Set("b", "2")
	c := b.Cut("a")
	if x.Len() != 0 || a.Len() != 1 || b.Len() != 2 || c.Len() != 1 {
		t.Error(x.Len(), a.Len(), b.Len(), c.Len())
	}
	if value, ok := c.Get("b"); value != "2" || !ok {
		t.Error(value, ok)
	}
	if p, ok := c.At(0); p != (api.Pair{Key: "b", Value: "2"}) || !ok {
		t.Error(p, ok)
	}
}

// P10.1 (R1): a nil tree, and a new one, are without keys, whatever they are asked for.
func TestWithoutKeys(t *testing.T) {
	var none *Tree
	emptied := none.Set("a", "1").Set("b", "2").Cut("a").Cut("b")
	for _, x := range []*Tree{none, New(), New().Cut("a"), none.Cut(""), emptied} {
		held(t, x, nil, texts())
		ranged(t, x, nil, texts())
		if x.High() != 0 {
			t.Error(x.High())
		}
		for _, i := range []int{math.MinInt, math.MinInt32, -1, 0, 1, math.MaxInt32, math.MaxInt} {
			if p, ok := x.At(i); ok || p != (api.Pair{}) {
				t.Error(i, p, ok)
			}
		}
		for _, key := range texts() {
			held(t, x.Set(key, "v"), map[string]string{key: "v"}, texts())
			held(t, x.Cut(key), nil, texts())
			held(t, x.Set(key, "v").Cut(key), nil, texts())
			held(t, x, nil, texts())
		}
	}
}

// P10.1: numbers far beyond are no key's, however many keys there are.
func TestAtBeyond(t *testing.T) {
	x := New()
	for n := range 40 {
		for _, i := range []int{math.MinInt, math.MinInt + 1, math.MinInt32, -n - 1, -n, -1, n, n + 1, 2 * n, 1 << 32, 1<<32 + 1, math.MaxInt32, math.MaxInt - 1, math.MaxInt} {
			if i >= 0 && i < n {
				continue
			}
			if p, ok := x.At(i); ok || p != (api.Pair{}) {
				t.Errorf("At(%d) of %d: %v, %v", i, n, p, ok)
			}
		}
		x = x.Set(fmt.Sprint(n), "v")
	}
}

// P10.1: values, the empty one and long ones too, and a later one for the same key.
func TestValues(t *testing.T) {
	x, model := New(), map[string]string{}
	for round, value := range []string{"", "v", "\x00", "a\xff", "", strings.Repeat("w", 100000), "v"} {
		for i, key := range texts() {
			want := value
			if i%3 == round%3 {
				want += key
			}
			x = x.Set(key, want)
			model[key] = want
		}
		held(t, x, model, texts())
		ranged(t, x, model, texts())
	}
	if value, ok := New().Set("a", "").Get("a"); value != "" || !ok {
		t.Error("an empty value is none")
	}
	if x := New().Set("a", "1").Set("a", "1"); x.Len() != 1 || x.High() != 1 {
		t.Error("the same value twice makes", x.Len(), x.High())
	}
}

// P10.1: a range's first key counts, its last one doesn't, whether they are there or not.
func TestRangeEdges(t *testing.T) {
	x := New()
	for _, key := range []string{"d", "b", "f", "a\x00", "bb", ""} {
		x = x.Set(key, key+"!")
	}
	for _, c := range []struct{ from, to, want string }{
		{"", "", ""},
		{"", "\x00", "|"},
		{"", "a", "|"},
		{"", "a\x00", "|"},
		{"", "a\x00\x00", "||a\x00"},
		{"\x00", "b", "|a\x00"},
		{"b", "b", ""},
		{"b", "b\x00", "|b"},
		{"b", "bb", "|b"},
		{"b\x00", "bb", ""},
		{"b", "f", "|b|bb|d"},
		{"b\x00", "f\x00", "|bb|d|f"},
		{"bb", "e", "|bb|d"},
		{"c", "g", "|d|f"},
		{"g", "\xff", ""},
		{"f", "b", ""},
		{"g", "", ""},
		{"", "\xff\xff", "||a\x00|b|bb|d|f"},
	} {
		got := ""
		for _, p := range x.Range(c.from, c.to) {
			if p.Gone || p.Value != p.Key+"!" {
				t.Error(p)
			}
			got += "|" + p.Key
		}
		if got != c.want {
			t.Errorf("Range(%q, %q): %q, not %q", c.from, c.to, got, c.want)
		}
	}
}

// P10.1: of a key that isn't there, Cut answers the same tree.
func TestCutOfNone(t *testing.T) {
	var none *Tree
	if none.Cut("a") != none {
		t.Error("of a nil tree another one")
	}
	x, model := New(), map[string]string{}
	for i, key := range texts() {
		if i%2 == 0 {
			x, model[key] = x.Set(key, "v"), "v"
		}
	}
	for _, key := range texts() {
		_, there := model[key]
		y := x.Cut(key)
		if (y == x) == there {
			t.Errorf("Cut(%s): the same tree: %v", short(key), y == x)
		}
		if y.Cut(key) != y {
			t.Errorf("Cut(%s) twice: another tree", short(key))
		}
	}
	held(t, x, model, texts())
}

// P10.1, P10.3: each call, in long rows of all of them, on few keys and on many.
func TestRows(t *testing.T) {
	for _, most := range []int{1, 2, 3, 7, len(texts())} {
		for seed := range 20 {
			next := chance(uint32(1000*most + seed))
			keys := texts()
			for len(keys) > most {
				i := next(len(keys))
				keys = slices.Delete(keys, i, i+1)
			}
			asked := append(texts(), keys[0]+"\x00")
			x, model := New(), map[string]string{}
			for step := range 150 {
				key := keys[next(len(keys))]
				// Some stretches mostly grow, others mostly shrink.
				if next(4) > step/30%2*2 {
					value := fmt.Sprint(step)
					x, model[key] = x.Set(key, value), value
				} else {
					x = x.Cut(key)
					delete(model, key)
				}
				held(t, x, model, asked)
				if step%50 == 49 {
					ranged(t, x, model, asked)
				}
			}
		}
	}
}

// P10.1 (R3, R5): the same is answered again, in new memory.
func TestAnswersAreNew(t *testing.T) {
	x, model := New(), map[string]string{}
	for _, key := range texts() {
		x, model[key] = x.Set(key, key), key
	}
	first, again := x.Range("", "\xff\xff\xff"), x.Range("", "\xff\xff\xff")
	if len(first) != len(texts()) || !slices.Equal(first, again) {
		t.Fatal(len(first), len(again))
	}
	clear(first)
	_ = append(first[:0], api.Pair{Key: "other"})
	if slices.Equal(first, again) {
		t.Error("two answers share memory")
	}
	held(t, x, model, texts())
	ranged(t, x, model, texts())
}
