package clash

import (
	"fmt"
	"slices"
	"testing"

	"flint/api"
	"flint/tree"
	"flint/view"
)

// chance answers numbers that look like chance, the same ones each time.
func chance(x uint32) func(n int) int {
	return func(n int) int {
		x = x*1664525 + 1013904223
		return int(x>>8) % n
	}
}

// name is one of many keys.
func name(i int) string { return fmt.Sprintf("k%03d", i) }

// model is what the chapter's words say of a history: all writes there ever were, and up to which number they were forgotten.
type model struct {
	all       [][]api.Pair
	forgotten uint64
}

// clash goes through all writes that weren't forgotten.
func (m *model) clash(since uint64, reads []string, ranges [][2]string) (bool, bool) {
	clashes, known := false, true
	for i, writes := range m.all {
		number := uint64(i) + 1
		switch {
		case number <= since:
		case number <= m.forgotten:
			known = false
		case modelClash(reads, ranges, writes):
			clashes = true
		}
	}
	return clashes, known
}

// forget forgets those up to a number, of which there may be no writes yet.
func (m *model) forget(upTo uint64) {
	for i := range m.all {
		if number := uint64(i) + 1; number <= upTo {
			m.forgotten = max(m.forgotten, number)
		}
	}
}

// both are a history, and what it has to hold.
type both struct {
	h *History
	m *model
}

// adds adds writes of some of the first keys.
func (b both) adds(t *testing.T, next func(n int) int, many int) {
	t.Helper()
	var writes []api.Pair
	for range next(4) {
		writes = append(writes, api.Pair{Key: name(next(many)), Value: "v", Gone: next(3) == 0})
	}
	b.m.all = append(b.m.all, slices.Clone(writes))
	if n := b.h.Add(writes); n != uint64(len(b.m.all)) {
		t.Fatalf("Add: %d, not %d", n, len(b.m.all))
	}
	clear(writes)
}

// held fails the test, if a history doesn't answer of a view what its model says, since any number.
func (b both) held(t *testing.T, v *view.View) {
	t.Helper()
	for since := range uint64(len(b.m.all)) + 3 {
		clashes, known := b.m.clash(since, v.Reads(), v.Ranges())
		if is, all := b.h.Clash(since, v); is != clashes || all != known {
			t.Fatalf("since %d of %d, forgotten %d: %t, %t, not %t, %t", since, len(b.m.all), b.m.forgotten, is, all, clashes, known)
		}
	}
	if now, want := b.h.Now(), uint64(len(b.m.all)); now != want {
		t.Fatalf("Now: %d, not %d", now, want)
	}
	if n, want := b.h.Len(), len(b.m.all)-int(b.m.forgotten); n != want {
		t.Fatalf("Len: %d, not %d", n, want)
	}
}

// reads lets a view read one of the first keys, or a range.
func reads(v *view.View, next func(n int) int, many int) {
	key := name(next(many))
	switch next(6) {
	case 0:
		v.Range(key, name(next(many)))
	case 1:
		v.Look(key)
	case 2:
		v.Set(key, "w")
	default:
		v.Get(key)
	}
}

// P21.1: each call, in long rows of all of them, on few keys and on many, with views that read more and more.
func TestRows(t *testing.T) {
	for _, many := range []int{1, 3, 10, 60, 400} {
		for seed := range 30 {
			next := chance(uint32(many*1000 + seed))
			b := both{New(), &model{}}
			views := []*view.View{nil, view.New(tree.New())}
			for range 60 {
				v := views[next(len(views))]
				switch next(5) {
				case 0:
					views = append(views, view.New(tree.New()))
				case 1:
					upTo := uint64(next(2 + len(b.m.all)*(1+seed%3)/2))
					b.h.Forget(upTo)
					b.m.forget(upTo)
				case 2:
					reads(v, next, many)
				default:
					b.adds(t, next, many)
				}
				b.held(t, v)
			}
		}
	}
}

// P21.2: whatever is read besides, or written, takes no clash away, and of no number more is known or less.
func TestMoreClashesMore(t *testing.T) {
	for seed := range 60 {
		next := chance(uint32(seed))
		many := 5 + seed*4
		b := both{New(), &model{}}
		v := view.New(tree.New())
		was := []bool{}
		for range 120 {
			if next(2) == 0 {
				reads(v, next, many)
			} else {
				b.adds(t, next, many)
			}
			var now []bool
			for since := range b.h.Now() + 1 {
				is, known := b.h.Clash(since, v)
				if !known {
					t.Fatalf("since %d: something was forgotten", since)
				}
				now = append(now, is)
			}
			for since, is := range was {
				if is && !now[since] {
					t.Fatalf("since %d: a clash went", since)
				}
			}
			was = now
		}
	}
}

// P21.2: what is read and written in one transaction besides takes no clash away, in any order of the lists.
func TestMoreInListsClashesMore(t *testing.T) {
	for seed := range 400 {
		next := chance(uint32(seed))
		many := 8 + seed
		var keys []string
		var ranges [][2]string
		var writes []api.Pair
		was := false
		for range 40 {
			key := name(next(many))
			switch next(4) {
			case 0:
				keys = slices.Insert(keys, next(len(keys)+1), key)
			case 1:
				ranges = slices.Insert(ranges, next(len(ranges)+1), [2]string{key, name(next(many))})
			default:
				writes = slices.Insert(writes, next(len(writes)+1), api.Pair{Key: key, Gone: next(2) == 0})
			}
			is := Clash(keys, ranges, writes)
			if is != modelClash(keys, ranges, writes) {
				t.Fatalf("%q, %q, %v: %t", keys, ranges, writes, is)
			}
			if was && !is {
				t.Fatalf("%q, %q, %v: a clash went", keys, ranges, writes)
			}
			was = is
		}
	}
}
