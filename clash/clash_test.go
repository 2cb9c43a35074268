package clash

import (
	"fmt"
	"slices"
	"strings"
	"testing"

	"flint/api"
)

// texts are keys of many kinds, rising by bytes, each once.
func texts() []string {
	l := []string{
		"", "\x00", "\x00\x00", "a", "a\x00", "a\x00\x00", "a\x01", "aa", "b", "z", "ä", "€", "\x7f", "\x80", "\xff", "\xff\x00", "\xff\xff",
		"D\x00\x00\x00\x01\x00\x00", "E\x00\x00\x00\x01a", "I\x00\x00\x00\x01",
		strings.Repeat("k", api.MaxKey), strings.Repeat("k", api.MaxKey+1), strings.Repeat("k", 100000),
	}
	slices.Sort(l)
	return l
}

// wrote are writes of keys, each other one gone.
func wrote(keys ...string) []api.Pair {
	var l []api.Pair
	for i, key := range keys {
		l = append(l, api.Pair{Key: key, Gone: i%2 == 1})
	}
	return l
}

// modelClash is what the chapter's words say: each write is held against all that was read.
func modelClash(reads []string, ranges [][2]string, writes []api.Pair) bool {
	for _, p := range writes {
		for _, key := range reads {
			if key == p.Key {
				return true
			}
		}
		for _, r := range ranges {
			if r[0] <= p.Key && p.Key < r[1] {
				return true
			}
		}
	}
	return false
}

// P21.1: the chapter's examples.
func TestExample(t *testing.T) {
	if !Clash([]string{"a"}, nil, wrote("a")) {
		t.Error("read a, written a")
	}
	if !Clash(nil, [][2]string{{"a", "c"}}, wrote("b")) {
		t.Error("read from a up to c, written b")
	}
	if Clash(nil, [][2]string{{"a", "c"}}, wrote("c")) {
		t.Error("read from a up to c, written c")
	}
}

// P21.1 (R4): nothing clashes with nothing; lists that are nil and empty ones are the same.
func TestNothing(t *testing.T) {
	noReads, noRanges, noWrites := [][]string{nil, {}}, [][][2]string{nil, {}}, [][]api.Pair{nil, {}}
	for i := range 8 {
		reads, ranges, writes := noReads[i%2], noRanges[i/2%2], noWrites[i/4]
		if Clash(reads, ranges, writes) {
			t.Error("nothing clashes with nothing")
		}
		if Clash(reads, ranges, wrote("", "a")) {
			t.Error("writes clash, but nothing was read")
		}
		if Clash([]string{"", "a"}, [][2]string{{"", "b"}}, writes) {
			t.Error("what was read clashes, but nothing was written")
		}
		if !Clash([]string{"a"}, ranges, wrote("a")) || !Clash(reads, [][2]string{{"a", "b"}}, wrote("a")) {
			t.Error("what isn't there hinders a clash")
		}
	}
}

// P21.1: a key that was read clashes with itself alone, not with those that begin like it or stand beside it.
func TestReads(t *testing.T) {
	for _, read := range texts() {
		for _, key := range texts() {
			if got := Clash([]string{read}, nil, wrote(key)); got != (read == key) {
				t.Errorf("read %.9q, written %.9q: %t", read, key, got)
			}
		}
	}
}

// P21.1: in a range stands its first key, and all up to the last one, which doesn't count; in one that ends where it begins, or ahead of that, stands none.
func TestRanges(t *testing.T) {
	l := texts()
	for from := range l {
		for to := range l {
			for i, key := range l {
				got := Clash(nil, [][2]string{{l[from], l[to]}}, wrote(key))
				if got != (from <= i && i < to) {
					t.Errorf("read from %.9q up to %.9q, written %.9q: %t", l[from], l[to], key, got)
				}
			}
		}
	}
}

// P21.1: a key was written, whatever its value is, and if it is gone, too.
func TestWrites(t *testing.T) {
	for _, p := range []api.Pair{
		{Key: "b"}, {Key: "b", Value: "1"}, {Key: "b", Gone: true}, {Key: "b", Value: "a", Gone: true}, {Key: "b", Value: strings.Repeat("v", 1000)},
	} {
		if !Clash([]string{"b"}, nil, []api.Pair{p}) || !Clash(nil, [][2]string{{"b", "c"}}, []api.Pair{p}) {
			t.Errorf("%.9v doesn't clash with b", p)
		}
		if Clash([]string{"a", "1"}, [][2]string{{"a", "b"}, {"1", "2"}}, []api.Pair{p}) {
			t.Errorf("%.9v clashes with what isn't b", p)
		}
	}
}

// P21.1: of many keys one is enough, wherever it stands; lists may be in any order, and have what is the same.
func TestMany(t *testing.T) {
	for _, c := range []struct {
		reads  []string
		ranges [][2]string
		writes []api.Pair
		want   bool
	}{
		{[]string{"a", "b", "c"}, nil, wrote("c"), true},
		{[]string{"c", "b", "a"}, nil, wrote("a"), true},
		{[]string{"c", "a", "b"}, nil, wrote("x", "b", "y"), true},
		{[]string{"c", "c", "c"}, nil, wrote("z", "y", "x", "c"), true},
		{[]string{"c", "a", "c"}, nil, wrote("z", "b", "b", "0"), false},
		{nil, [][2]string{{"a", "b"}, {"c", "d"}, {"e", "f"}}, wrote("b", "d", "f"), false},
		{nil, [][2]string{{"a", "b"}, {"c", "d"}, {"e", "f"}}, wrote("f", "e", "d"), true},
		{nil, [][2]string{{"e", "f"}, {"c", "d"}, {"a", "b"}}, wrote("f", "d", "a1"), true},
		{nil, [][2]string{{"a", "z"}, {"c", "d"}}, wrote("e"), true},
		{nil, [][2]string{{"c", "d"}, {"a", "z"}}, wrote("e"), true},
		{nil, [][2]string{{"c", "a"}, {"b", "b"}, {"d", "c"}}, wrote("a", "b", "c", "d"), false},
		{nil, [][2]string{{"c", "a"}, {"d", "e"}}, wrote("d", "b"), true},
		{[]string{"b"}, [][2]string{{"c", "d"}}, wrote("a", "d"), false},
		{[]string{"b"}, [][2]string{{"c", "d"}}, wrote("d", "b"), true},
		{[]string{"b"}, [][2]string{{"c", "d"}}, wrote("d", "cc"), true},
		{[]string{"b"}, [][2]string{{"a", "c"}}, wrote("b"), true},
	} {
		if got := Clash(c.reads, c.ranges, c.writes); got != c.want {
			t.Errorf("%q, %q, %v: %t", c.reads, c.ranges, c.writes, got)
		}
	}
}

// P21.1: long lists, of which all but one key stand beside each other.
func TestLong(t *testing.T) {
	var reads []string
	var ranges [][2]string
	var writes []api.Pair
	for i := range 3000 {
		n := 9999 - i*7%3000
		reads = append(reads, fmt.Sprint(n, " r"))
		ranges = append(ranges, [2]string{fmt.Sprint(n, " s"), fmt.Sprint(n, " t")})
		writes = append(writes, api.Pair{Key: fmt.Sprint(n, " t")})
	}
	if Clash(reads, ranges, writes) {
		t.Error("they clash")
	}
	for _, i := range []int{0, 1, 1499, 1500, 2998, 2999} {
		for _, end := range []string{"r", "s", "s9"} {
			was := writes[i]
			writes[i].Key = strings.TrimSuffix(was.Key, "t") + end
			if !Clash(reads, ranges, writes) {
				t.Errorf("number %d, %q: they don't clash", i, writes[i].Key)
			}
			writes[i] = was
		}
	}
}

// P21.1 (R3, R5): what is handed in stays as it is, and in its order; what is asked again is answered again.
func TestHandedInStays(t *testing.T) {
	reads := []string{"c", "a", "b", "a"}
	ranges := [][2]string{{"x", "y"}, {"m", "n"}, {"o", "m"}}
	writes := []api.Pair{{Key: "z", Value: "1"}, {Key: "k", Gone: true}, {Key: "k", Value: "2"}, {Key: "d"}}
	was := fmt.Sprint(reads, ranges, writes)
	for range 3 {
		if Clash(reads, ranges, writes) || !Clash(reads, ranges, append(writes[:4:4], api.Pair{Key: "x"})) {
			t.Error("they clash otherwise")
		}
		if got := fmt.Sprint(reads, ranges, writes); got != was {
			t.Errorf("%s, was %s", got, was)
		}
	}
}

// chosen are those of a list whose bits are set.
func chosen[T any](l []T, bits int) []T {
	var some []T
	for i, x := range l {
		if bits>>i&1 == 1 {
			some = append(some, x)
		}
	}
	return some
}

// P21.1, P21.2: all that may be read and written of few keys; what is read, or written, besides, takes no clash away.
func TestAllOfFew(t *testing.T) {
	reads := []string{"a", "c", "b"}
	ranges := [][2]string{{"b", "d"}, {"a", "b"}, {"c", "a"}, {"d", "\xff"}}
	writes := wrote("d", "a", "c", "b")
	parts := len(reads) + len(ranges) + len(writes)
	clashes := make([]bool, 1<<parts)
	for bits := range clashes {
		some := chosen(reads, bits)
		areas := chosen(ranges, bits>>len(reads))
		written := chosen(writes, bits>>(len(reads)+len(ranges)))
		clashes[bits] = Clash(some, areas, written)
		if want := modelClash(some, areas, written); clashes[bits] != want {
			t.Fatalf("%q, %q, %v: %t", some, areas, written, clashes[bits])
		}
		for i := range parts {
			if less := bits &^ (1 << i); clashes[less] && !clashes[bits] {
				t.Errorf("%q, %q, %v don't clash, but do without part %d", some, areas, written, i)
			}
		}
	}
}
