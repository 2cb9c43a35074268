package view

import (
	"fmt"
	"maps"
	"slices"
	"testing"

	"flint/api"
	"flint/tree"
)

// chance answers numbers that look like chance, the same ones each time.
func chance(x uint32) func(n int) int {
	return func(n int) int {
		x = x*1664525 + 1013904223
		return int(x>>8) % n
	}
}

// model is what the chapter's words say of a view: its base and its writes apart, gone through for each question.
type model struct {
	base   map[string]string
	writes map[string]api.Pair
	reads  map[string]int
	ranges [][2]string
}

// value is a key's value, and whether it is there.
func (m *model) value(key string) (string, bool) {
	if p, ok := m.writes[key]; ok {
		return p.Value, !p.Gone
	}
	value, ok := m.base[key]
	return value, ok
}

// within are the keys that are there, from one on, up to another one.
func (m *model) within(from, to string) []api.Pair {
	keys := slices.Concat(slices.Collect(maps.Keys(m.base)), slices.Collect(maps.Keys(m.writes)))
	slices.Sort(keys)
	var l []api.Pair
	for _, key := range slices.Compact(keys) {
		if value, ok := m.value(key); ok && from <= key && key < to {
			l = append(l, api.Pair{Key: key, Value: value})
		}
	}
	return l
}

// write is a write, or that there is no room for it.
func (m *model) write(p api.Pair) bool {
	if _, ok := m.writes[p.Key]; !ok && len(m.writes) >= 48 {
		return false
	}
	m.writes[p.Key] = p
	if _, ok := m.base[p.Key]; p.Gone && !ok {
		delete(m.writes, p.Key)
	}
	return true
}

// all are all writes, rising.
func (m *model) all() []api.Pair {
	var l []api.Pair
	for _, key := range slices.Sorted(maps.Keys(m.writes)) {
		l = append(l, m.writes[key])
	}
	return l
}

// copied is a model that is the same.
func (m *model) copied() *model {
	return &model{m.base, maps.Clone(m.writes), maps.Clone(m.reads), slices.Clone(m.ranges)}
}

// both are a view, and what it has to hold.
type both struct {
	v *View
	m *model
}

// newBoth are a new view over keys of these numbers, and its model.
func newBoth(numbers ...int) both {
	base, m := tree.New(), map[string]string{}
	for _, i := range numbers {
		base, m[name(i)] = base.Set(name(i), fmt.Sprint(i)), fmt.Sprint(i)
	}
	return both{New(base), &model{m, map[string]api.Pair{}, map[string]int{}, nil}}
}

// copied are a copy of both.
func (b both) copied() both { return both{b.v.Copy(), b.m.copied()} }

// held fails the test, if a view doesn't hold what its model says; nothing is noted by that.
func (b both) held(t *testing.T, keys []string) {
	t.Helper()
	for _, key := range keys {
		value, there := b.m.value(key)
		if got, ok := b.v.Look(key); got != value || ok != there {
			t.Fatalf("Look(%q): %q, %v, not %q, %v", key, got, ok, value, there)
		}
	}
	if got, want := b.v.Writes(), b.m.all(); !slices.Equal(got, want) {
		t.Fatalf("writes: %q, not %q", told(got), told(want))
	}
	if got, want := b.v.Reads(), slices.Sorted(maps.Keys(b.m.reads)); !slices.Equal(got, want) {
		t.Fatalf("reads: %q, not %q", got, want)
	}
	if got := b.v.Ranges(); !slices.Equal(got, b.m.ranges) {
		t.Fatalf("ranges: %q, not %q", got, b.m.ranges)
	}
}

// reads asks a view for a key, or for a range.
func (b both) reads(t *testing.T, next func(n int) int, key, other string) {
	t.Helper()
	if next(2) == 0 {
		value, there := b.m.value(key)
		b.m.reads[key] = 1
		if got, ok := b.v.Get(key); got != value || ok != there {
			t.Fatalf("Get(%q): %q, %v, not %q, %v", key, got, ok, value, there)
		}
		return
	}
	if r := [2]string{key, other}; key < other && !slices.Contains(b.m.ranges, r) {
		b.m.ranges = append(b.m.ranges, r)
	}
	if got, want := b.v.Range(key, other), b.m.within(key, other); !slices.Equal(got, want) {
		t.Fatalf("Range(%q, %q): %q, not %q", key, other, told(got), told(want))
	}
}

// acts does one of all calls.
func (b both) acts(t *testing.T, next func(n int) int, keys []string, step int, grows bool) {
	t.Helper()
	key, other := keys[next(len(keys))], keys[next(len(keys))]
	set := next(4) > 0
	switch {
	case next(3) == 0:
		b.reads(t, next, key, other)
	case set == grows:
		value := fmt.Sprint("v", step)
		if got, want := b.v.Set(key, value), b.m.write(api.Pair{Key: key, Value: value}); got != want {
			t.Fatalf("Set(%q) with %d writes: %v", key, len(b.m.writes), got)
		}
	default:
		if got, want := b.v.Cut(key), b.m.write(api.Pair{Key: key, Gone: true}); got != want {
			t.Fatalf("Cut(%q) with %d writes: %v", key, len(b.m.writes), got)
		}
	}
}

// over fails the test, if a view doesn't show what its base shows with its writes done to it.
func over(t *testing.T, v *View, base *tree.Tree) {
	t.Helper()
	for _, p := range v.Writes() {
		if p.Gone {
			base = base.Cut(p.Key)
		} else {
			base = base.Set(p.Key, p.Value)
		}
	}
	if got, want := v.Copy().Range("", "\xff"), base.Range("", "\xff"); !slices.Equal(got, want) {
		t.Fatalf("shown: %q, not %q", told(got), told(want))
	}
}

// P14.1, P14.2: each call, in long rows of all of them, on few keys and on more than may be written, over bases of none, some and all of them.
func TestRows(t *testing.T) {
	for _, many := range []int{1, 2, 5, 50, 120} {
		keys := []string{"", "~"}
		for i := range many {
			keys = append(keys, name(i))
		}
		for seed := range 24 {
			next := chance(uint32(many*1000 + seed))
			var numbers []int
			for i := range many {
				if next(4) < seed%5 {
					numbers = append(numbers, i)
				}
			}
			b := newBoth(numbers...)
			base := b.v.base
			for step := range 250 {
				b.acts(t, next, keys, step, step/80%2 == 0)
				b.held(t, keys)
				over(t, b.v, base)
			}
		}
	}
}

// P14.1: copies of copies, each with calls of its own: what is done to one changes nothing of another one.
func TestCopies(t *testing.T) {
	for seed := range 12 {
		next := chance(uint32(seed))
		keys := []string{"", "~"}
		for i := range 6 + seed*8 {
			keys = append(keys, name(i))
		}
		all := []both{newBoth(0, 2, 3, 5, 8, 13, 21, 34, 55)}
		for step := range 600 {
			one := all[next(len(all))]
			if step%40 == 0 {
				all = append(all, one.copied())
			}
			one.acts(t, next, keys, step, step/150%2 == 0)
			if step%30 == 29 {
				for _, b := range all {
					b.held(t, keys)
				}
			}
		}
	}
}

// P14.1: a copy has the same writes, and has read the same; then each goes its own way, for each kind of call.
func TestCopy(t *testing.T) {
	acts := []func(v *View){
		func(v *View) { v.Set("a", "other") },
		func(v *View) { v.Set("n", "new") },
		func(v *View) { v.Cut("a") },
		func(v *View) { v.Cut("c") },
		func(v *View) { v.Get("n") },
		func(v *View) { v.Range("m", "n") },
	}
	for i, act := range acts {
		for j, other := range acts {
			v := New(treeOf("a", "1", "b", "2"))
			v.Set("c", "3")
			v.Cut("b")
			v.Get("b")
			for n := range 5 {
				v.Range("a", name(n))
			}
			was := told(v.Writes()) + fmt.Sprint(v.Reads(), v.Ranges())
			c := v.Copy()
			state := func(v *View) string { return told(v.Writes()) + fmt.Sprint(v.Reads(), v.Ranges()) }
			if state(c) != was {
				t.Fatalf("a copy: %s, not %s", state(c), was)
			}
			act(v)
			if state(c) != was {
				t.Errorf("act %d on the one: the copy is %s, was %s", i, state(c), was)
			}
			done := state(v)
			other(c)
			if state(v) != done {
				t.Errorf("act %d on the copy behind %d on the one: that is %s, was %s", j, i, state(v), done)
			}
		}
	}
}

// P14.1: a copy of a view without room has none, and the other way round: room of one is none of the other.
func TestCopyOfFull(t *testing.T) {
	v := full(t)
	c := v.Copy()
	if c.Set("more", "") || !c.Cut(name(1)) || !c.Set("more", "") || v.Set("more", "") {
		t.Error("the room isn't each one's own")
	}
	if len(v.Writes()) != api.MaxWrites || len(c.Writes()) != api.MaxWrites {
		t.Error(len(v.Writes()), len(c.Writes()))
	}
}

// P14.1 (R3): what a view does changes nothing of its base, and what is made of the base changes nothing of the view.
func TestBaseStays(t *testing.T) {
	base := treeOf("a", "1", "b", "2", "c", "3")
	v, w := New(base), New(base)
	v.Set("a", "v")
	v.Set("d", "v")
	v.Cut("b")
	if got := told(base.Range("", "~")); got != "a=1 b=2 c=3 " {
		t.Error(got)
	}
	base = base.Set("e", "5").Set("a", "5").Cut("c")
	shows(t, v, "a=v c=3 d=v ", "a=v -b d=v ")
	shows(t, w, "a=1 b=2 c=3 ", "")
	shows(t, New(base), "a=5 b=2 e=5 ", "")
}

// P14.1 (R3, R5): what is answered is answered again, in new memory.
func TestAnswersAreNew(t *testing.T) {
	v := New(treeOf("a", "1", "b", "2"))
	v.Set("c", "3")
	v.Cut("b")
	for i := range 5 {
		v.Get(name(i))
		v.Range("a", name(i))
	}
	c := v.Copy()
	for _, x := range []*View{v, c, v} {
		pairs, writes, reads, ranges := x.Range("a", name(0)), x.Writes(), x.Reads(), x.Ranges()
		clear(pairs)
		clear(writes)
		clear(reads)
		clear(ranges)
		_ = append(pairs[:0], api.Pair{Key: "other"})
		_ = append(writes[:0], api.Pair{Key: "other"})
		_ = append(reads[:0], "other")
		_ = append(ranges[:0], [2]string{"other", "others"})
	}
	for _, x := range []*View{v, c} {
		shows(t, x, "a=1 c=3 ", "-b c=3 ")
		noted(t, x, []string{name(0), name(1), name(2), name(3), name(4)},
			[][2]string{{"a", name(0)}, {"a", name(1)}, {"a", name(2)}, {"a", name(3)}, {"a", name(4)}})
	}
	ranges := v.Ranges()
	v.Range("more", "n")
	_ = append(ranges, [2]string{"other", "others"})
	if l := v.Ranges(); l[len(l)-1] != [2]string{"more", "n"} {
		t.Error("an answer is written on into the view's own list")
	}
}

// P14.2: all rows of up to four writes of three keys, over all bases of them: a view shows its base with its writes done to it.
func TestAllOfFew(t *testing.T) {
	keys := []string{"a", "b", "c"}
	for which := range 8 {
		base := tree.New()
		for i, key := range keys {
			if which>>i&1 == 1 {
				base = base.Set(key, "old")
			}
		}
		// A row is up to four acts, each a digit: a key of three, that is set or cut.
		for row := range 6 * 6 * 6 * 6 {
			v := New(base)
			want := base
			for n := row; n > 0; n /= 6 {
				key := keys[n%3]
				if n/3%2 == 0 {
					v.Set(key, fmt.Sprint(n))
					want = want.Set(key, fmt.Sprint(n))
				} else {
					v.Cut(key)
					want = want.Cut(key)
				}
			}
			over(t, v, base)
			if got := v.Range("", "~"); !slices.Equal(got, want.Range("", "~")) {
				t.Fatalf("row %d over %d: %q", row, which, told(got))
			}
		}
	}
}
