package view

import (
	"fmt"
	"slices"
	"strings"
	"testing"

	"flint/api"
	"flint/tree"
)

// texts are keys of many kinds, rising by bytes.
func texts() []string {
	l := []string{
		"", "\x00", "\x00\x00", "a", "a\x00", "aa", "b", "z", "ä", "€", "\x7f", "\x80", "\xff", "\xff\x00", "\xff\xff",
		"D\x00\x00\x00\x01\x00\x00", "E\x00\x00\x00\x01a", "I\x00\x00\x00\x01",
		strings.Repeat("k", api.MaxKey), strings.Repeat("k", api.MaxKey+1), strings.Repeat("k", 100000),
	}
	slices.Sort(l)
	return l
}

// name is one of many keys.
func name(i int) string { return fmt.Sprintf("k%03d", i) }

// treeOf is a tree of keys and values, that come one behind the other.
func treeOf(l ...string) *tree.Tree {
	t := tree.New()
	for i := 0; i < len(l); i += 2 {
		t = t.Set(l[i], l[i+1])
	}
	return t
}

// told is a list of pairs as a short text: of what is gone a minus ahead of the key.
func told(l []api.Pair) string {
	s := ""
	for _, p := range l {
		if p.Gone {
			s += "-" + p.Key + p.Value + " "
		} else {
			s += p.Key + "=" + p.Value + " "
		}
	}
	return s
}

// shows fails the test, if a view doesn't show just these keys, or hasn't just these writes.
func shows(t *testing.T, v *View, shown, writes string) {
	t.Helper()
	if got := told(v.Copy().Range("", "~")); got != shown {
		t.Errorf("shown: %q, not %q", got, shown)
	}
	if got := told(v.Writes()); got != writes {
		t.Errorf("writes: %q, not %q", got, writes)
	}
}

// noted fails the test, if a view hasn't read just these keys and ranges.
func noted(t *testing.T, v *View, keys []string, ranges [][2]string) {
	t.Helper()
	if got := v.Reads(); !slices.Equal(got, keys) {
		t.Errorf("reads: %q, not %q", got, keys)
	}
	if got := v.Ranges(); !slices.Equal(got, ranges) {
		t.Errorf("ranges: %q, not %q", got, ranges)
	}
}

// is fails the test, if a value isn't as it should be; "-" is none.
func is(t *testing.T, value string, there bool, want string) {
	t.Helper()
	if !there && value != "" {
		t.Errorf("%q of what isn't there", value)
	}
	if !there {
		value = "-"
	}
	if value != want {
		t.Errorf("%q, not %q", value, want)
	}
}

// P14.1: the chapter's example.
func TestExample(t *testing.T) {
	v := New(treeOf("a", "1"))
	if !v.Cut("a") || !v.Set("b", "2") {
		t.Error("not written")
	}
	shows(t, v, "b=2 ", "-a b=2 ")
}

// P14.1 (R1): of a nil view nothing is there, and it takes nothing.
func TestNil(t *testing.T) {
	var v *View
	for _, key := range texts() {
		if v.Set(key, "v") || v.Cut(key) {
			t.Error("written")
		}
		value, ok := v.Get(key)
		is(t, value, ok, "-")
		value, ok = v.Look(key)
		is(t, value, ok, "-")
		if l := v.Range("", key); l != nil {
			t.Error(l)
		}
	}
	if v.Writes() != nil || v.Reads() != nil || v.Ranges() != nil || v.Copy() != nil {
		t.Error("there is something")
	}
}

// P14.1 (R1): over a nil tree, and one without keys, there is nothing but what is written.
func TestOverNothing(t *testing.T) {
	for _, base := range []*tree.Tree{nil, tree.New(), tree.New().Set("a", "1").Cut("a")} {
		v := New(base)
		shows(t, v, "", "")
		noted(t, v, nil, nil)
		for _, key := range texts() {
			value, ok := v.Look(key)
			is(t, value, ok, "-")
		}
		if !v.Cut("a") || !v.Set("b", "2") || !v.Set("c", "3") || !v.Cut("b") {
			t.Error("not written")
		}
		shows(t, v, "c=3 ", "c=3 ")
		noted(t, v, nil, nil)
	}
}

// P14.1: a new view has written and read nothing.
func TestNew(t *testing.T) {
	v := New(treeOf("a", "1", "b", ""))
	shows(t, v, "a=1 b= ", "")
	noted(t, v, nil, nil)
}

// P14.1: Get and Look answer the same; Get alone is noted, whatever it answers, each key once.
func TestGetAndLook(t *testing.T) {
	v := New(treeOf("a", "1", "b", "2", "c", "", "d", "4"))
	v.Set("b", "two")
	v.Set("e", "")
	v.Set("f", "6")
	v.Cut("d")
	v.Cut("f")
	for _, c := range []struct{ key, want string }{
		{"a", "1"}, {"b", "two"}, {"c", ""}, {"d", "-"}, {"e", ""}, {"f", "-"}, {"g", "-"}, {"", "-"}, {"a\x00", "-"},
	} {
		value, ok := v.Look(c.key)
		is(t, value, ok, c.want)
	}
	noted(t, v, nil, nil)
	var keys []string
	for _, c := range []struct{ key, want string }{
		{"f", "-"}, {"b", "two"}, {"a", "1"}, {"e", ""}, {"b", "two"}, {"d", "-"}, {"\xff", "-"}, {"c", ""}, {"", "-"}, {"f", "-"},
	} {
		value, ok := v.Get(c.key)
		is(t, value, ok, c.want)
		if !slices.Contains(keys, c.key) {
			keys = append(keys, c.key)
			slices.Sort(keys)
		}
		noted(t, v, keys, nil)
	}
}

// P14.1: what was read stays so, whatever is written; and what is written is not read by that.
func TestWritingIsNotReading(t *testing.T) {
	v := New(treeOf("a", "1"))
	v.Set("a", "2")
	v.Set("b", "2")
	v.Cut("a")
	v.Cut("c")
	v.Writes()
	noted(t, v, nil, nil)
	v.Get("a")
	v.Get("b")
	v.Set("a", "3")
	v.Cut("b")
	noted(t, v, []string{"a", "b"}, nil)
}

// P14.1: any texts are keys, and values.
func TestTexts(t *testing.T) {
	for _, value := range []string{"", "\x00", "\xff", strings.Repeat("w", api.MaxValue+1)} {
		base := tree.New()
		for _, key := range texts() {
			base = base.Set(key, "old")
		}
		for _, v := range []*View{New(nil), New(base)} {
			for _, key := range slices.Backward(texts()) {
				if !v.Set(key, value) {
					t.Fatal(key)
				}
				got, ok := v.Get(key)
				is(t, got, ok, value)
			}
			noted(t, v, texts(), nil)
			for i, p := range v.Writes() {
				if p != (api.Pair{Key: texts()[i], Value: value}) {
					t.Errorf("write %d: %.60q, %.60q, %v", i, p.Key, p.Value, p.Gone)
				}
			}
			for _, key := range texts() {
				if !v.Cut(key) {
					t.Fatal(key)
				}
				got, ok := v.Look(key)
				is(t, got, ok, "-")
			}
			if n := len(v.Writes()); n != v.base.Len() {
				t.Errorf("%d writes over %d keys", n, v.base.Len())
			}
		}
	}
}

// P14.1: a range's first key counts, its last one doesn't; what is written in it shows, what was cut doesn't.
func TestRangeEdges(t *testing.T) {
	v := New(treeOf("", "0", "b", "1", "c", "2", "d", "3", "f", "4"))
	v.Set("a", "A")
	v.Set("c", "C")
	v.Set("e", "")
	v.Cut("d")
	v.Set("ee", "E")
	v.Cut("ee")
	v.Set("\xff", "F")
	for _, c := range []struct{ from, to, want string }{
		{"", "\x00", "=0 "},
		{"", "a", "=0 "},
		{"", "a\x00", "=0 a=A "},
		{"a", "b", "a=A "},
		{"a\x00", "c", "b=1 "},
		{"b", "e", "b=1 c=C "},
		{"c", "d\x00", "c=C "},
		{"d", "e", ""},
		{"d", "f", "e= "},
		{"e", "g", "e= f=4 "},
		{"ee", "ef", ""},
		{"f\x00", "\xff", ""},
		{"f\x00", "\xff\x00", "\xff=F "},
		{"", "\xff\xff", "=0 a=A b=1 c=C e= f=4 \xff=F "},
	} {
		if got := told(v.Range(c.from, c.to)); got != c.want {
			t.Errorf("Range(%q, %q): %q, not %q", c.from, c.to, got, c.want)
		}
		if l := v.Ranges(); l[len(l)-1] != [2]string{c.from, c.to} {
			t.Errorf("Range(%q, %q) isn't noted last: %q", c.from, c.to, l)
		}
	}
}

// P14.1: where from isn't below to there is nothing, and nothing is read.
func TestRangeOfNothing(t *testing.T) {
	v := New(treeOf("", "0", "a", "1", "b", "2"))
	v.Set("c", "3")
	for _, to := range texts() {
		for _, from := range texts() {
			if from < to {
				continue
			}
			if l := v.Range(from, to); len(l) != 0 {
				t.Errorf("Range(%.9q, %.9q): %q", from, to, told(l))
			}
		}
	}
	noted(t, v, nil, nil)
}

// P14.1: ranges are noted in the order in which they were read first, each once, where nothing stands, too; and keys in them aren't noted as read.
func TestRanges(t *testing.T) {
	v := New(treeOf("a", "1", "b", "2"))
	var want [][2]string
	for _, r := range [][2]string{
		{"x", "y"}, {"a", "c"}, {"x", "y"}, {"a", "b"}, {"", "a"}, {"a", "c"}, {"", "\x00"}, {"a", "bb"}, {"aa", "b"}, {"b", "c"}, {"b", "a"}, {"x", "y"}, {"", "\xff"}, {"aa", "bb"},
	} {
		v.Range(r[0], r[1])
		if r[0] < r[1] && !slices.Contains(want, r) {
			want = append(want, r)
		}
		noted(t, v, nil, want)
	}
	if len(want) != 10 {
		t.Error(len(want))
	}
	v.Get("b")
	v.Look("a")
	noted(t, v, []string{"b"}, want)
}

// P14.1: what is set is written, the same value as the base's, too, and the last one alone.
func TestSet(t *testing.T) {
	v := New(treeOf("a", "1", "b", "2"))
	for _, c := range []struct{ key, value, shown, writes string }{
		{"b", "2", "a=1 b=2 ", "b=2 "},
		{"c", "", "a=1 b=2 c= ", "b=2 c= "},
		{"a", "", "a= b=2 c= ", "a= b=2 c= "},
		{"c", "3", "a= b=2 c=3 ", "a= b=2 c=3 "},
		{"a", "1", "a=1 b=2 c=3 ", "a=1 b=2 c=3 "},
		{"b", "", "a=1 b= c=3 ", "a=1 b= c=3 "},
	} {
		if !v.Set(c.key, c.value) {
			t.Errorf("Set(%q, %q)", c.key, c.value)
		}
		shows(t, v, c.shown, c.writes)
	}
}

// P14.1: what is cut isn't there; of what the base hasn't nothing is written any more.
func TestCut(t *testing.T) {
	v := New(treeOf("a", "1", "b", "2"))
	for _, c := range []struct{ act, key, shown, writes string }{
		{"cut", "a", "b=2 ", "-a "},
		{"cut", "a", "b=2 ", "-a "},
		{"cut", "c", "b=2 ", "-a "},
		{"set", "c", "b=2 c=v ", "-a c=v "},
		{"cut", "c", "b=2 ", "-a "},
		{"cut", "c", "b=2 ", "-a "},
		{"set", "a", "a=v b=2 ", "a=v "},
		{"cut", "a", "b=2 ", "-a "},
		{"set", "b", "b=v ", "-a b=v "},
		{"cut", "b", "", "-a -b "},
		{"cut", "", "", "-a -b "},
		{"set", "", "=v ", "=v -a -b "},
		{"set", "b", "=v b=v ", "=v -a b=v "},
		{"cut", "", "b=v ", "-a b=v "},
	} {
		done := c.act == "set" && v.Set(c.key, "v") || c.act == "cut" && v.Cut(c.key)
		if !done {
			t.Errorf("%s %q: not done", c.act, c.key)
		}
		shows(t, v, c.shown, c.writes)
	}
}

// full is a view over keys of even numbers up to 200 that has as many writes as may be: every second one of them is gone.
func full(t *testing.T) *View {
	t.Helper()
	base := tree.New()
	for i := 0; i <= 200; i += 2 {
		base = base.Set(name(i), "old")
	}
	v := New(base)
	for i := range api.MaxWrites {
		if len(v.Writes()) != i {
			t.Fatalf("%d writes, not %d", len(v.Writes()), i)
		}
		if i%2 == 0 && !v.Cut(name(i)) || i%2 == 1 && !v.Set(name(i), "new") {
			t.Fatalf("the write of %d isn't done", i)
		}
	}
	return v
}

// P14.1: MaxWrites keys are written at most; whatever else is to be changed, nothing is done.
func TestFull(t *testing.T) {
	v := full(t)
	shown, writes := told(v.Range("", "~")), v.Writes()
	if len(writes) != 48 || api.MaxWrites != 48 {
		t.Fatal(len(writes))
	}
	for _, key := range []string{"", name(48), name(49), name(200), name(201), "\xff"} {
		if v.Set(key, "more") || v.Set(key, "") || v.Cut(key) {
			t.Errorf("%q: written", key)
		}
		v.Get(key)
		v.Look(key)
		if v.Set(key, "more") || v.Cut(key) {
			t.Errorf("%q: written as it was read", key)
		}
	}
	if got := told(v.Range("", "~")); got != shown {
		t.Errorf("shown: %q, not %q", got, shown)
	}
	if got := v.Writes(); !slices.Equal(got, writes) {
		t.Errorf("writes: %q, not %q", told(got), told(writes))
	}
}

// P14.1: a key that is written already may be written again, however many are.
func TestFullAgain(t *testing.T) {
	v := full(t)
	for i := range api.MaxWrites {
		if !v.Set(name(i), "again") {
			t.Errorf("Set of %d", i)
		}
		value, ok := v.Look(name(i))
		is(t, value, ok, "again")
	}
	if len(v.Writes()) != api.MaxWrites || v.Set(name(48), "") || v.Cut(name(48)) {
		t.Error(len(v.Writes()))
	}
}

// P14.1: a key of the base's stays written as it is cut; another one's write goes, and another key has room.
func TestFullAndCut(t *testing.T) {
	v := full(t)
	for i := 0; i < api.MaxWrites; i += 2 {
		if !v.Cut(name(i)) || v.Set("more", "") || v.Cut(name(100)) || len(v.Writes()) != api.MaxWrites {
			t.Fatalf("behind a cut of the base's %d: %d writes", i, len(v.Writes()))
		}
	}
	for i := 1; i < api.MaxWrites; i += 2 {
		if !v.Cut(name(i)) || len(v.Writes()) != api.MaxWrites-1 {
			t.Fatalf("behind a cut of %d: %d writes", i, len(v.Writes()))
		}
		if !v.Cut(name(i)) || !v.Cut(name(i+100)) || len(v.Writes()) != api.MaxWrites-1 {
			t.Fatalf("behind cuts of nothing: %d writes", len(v.Writes()))
		}
		if !v.Cut(name(i+101)) || len(v.Writes()) != api.MaxWrites || v.Set(name(i), "") || v.Cut(name(i)) {
			t.Fatalf("there is no room behind a cut of %d, or too much: %d writes", i, len(v.Writes()))
		}
	}
}

// P14.1: however much is read, there is room for writes.
func TestReadsTakeNoRoom(t *testing.T) {
	v := New(treeOf("a", "1"))
	for i := range 3 * api.MaxWrites {
		v.Get(name(i))
		v.Range(name(i), "x")
	}
	for i := range api.MaxWrites {
		if !v.Set(name(i), "v") {
			t.Fatal(i)
		}
	}
	if v.Set("more", "v") || len(v.Reads()) != 3*api.MaxWrites || len(v.Ranges()) != 3*api.MaxWrites {
		t.Error(len(v.Writes()), len(v.Reads()), len(v.Ranges()))
	}
}
