package names

import (
	"slices"
	"strings"
	"testing"

	"flint/api"
)

// joined is the path of some names, by the chapter's words.
func joined(l []string) (string, api.Errno) {
	path := ""
	for _, name := range l {
		if !mayName(name) {
			return "", api.ErrName
		}
		path += "/" + name
	}
	if len(l) == 0 {
		path = "/"
	}
	if len(l) > 16 || len(path) > 255 {
		return "", api.ErrName
	}
	return path, api.OK
}

// lists are lists of names, those that no path is joined of among them.
func lists() [][]string {
	l := [][]string{nil, {}}
	for names := 1; names <= 20; names++ {
		for _, size := range []int{0, 1, 2, 14, 15, 16, 31, 32, 33} {
			l = append(l, slices.Repeat([]string{long(size)}, names))
		}
	}
	for _, name := range []string{"", ".", "..", "...", "/", "//", "/a", "a/", "a/b", "\x00", "a\x00", "\xff", "ä", " ", strings.Repeat("€", 10), strings.Repeat("€", 11)} {
		l = append(l, []string{name}, []string{"a", name}, []string{name, "a"}, []string{"a", name, "b"}, append(slices.Repeat([]string{"a"}, 15), name))
	}
	return l
}

// P16.1: the path of names, and ErrName where there is none.
func TestJoin(t *testing.T) {
	for _, c := range []struct {
		l    []string
		want string
		err  api.Errno
	}{
		{nil, "/", api.OK},
		{[]string{}, "/", api.OK},
		{[]string{"a"}, "/a", api.OK},
		{[]string{"a", "bc"}, "/a/bc", api.OK},
		{[]string{"...", "\xff", "ä"}, "/.../\xff/ä", api.OK},
		{[]string{long(32)}, "/" + long(32), api.OK},
		{[]string{long(33)}, "", api.ErrName},
		{[]string{""}, "", api.ErrName},
		{[]string{"", "a"}, "", api.ErrName},
		{[]string{"a", ""}, "", api.ErrName},
		{[]string{"."}, "", api.ErrName},
		{[]string{"a", ".."}, "", api.ErrName},
		{[]string{"/"}, "", api.ErrName},
		{[]string{"/a"}, "", api.ErrName},
		{[]string{"a/b"}, "", api.ErrName},
		{[]string{"a", "b\x00"}, "", api.ErrName},
	} {
		if path, e := Join(c.l); path != c.want || e != c.err {
			t.Errorf("Join(%q) = %q, %v", c.l, path, e)
		}
	}
}

// P16.1: as many names and as many bytes as a path may have, and one more.
func TestJoinLimits(t *testing.T) {
	wide := func(last int) []string { return append(slices.Repeat([]string{long(15)}, 15), long(last)) }
	for i, c := range []struct {
		l    []string
		size int
		err  api.Errno
	}{
		{slices.Repeat([]string{"a"}, 16), 32, api.OK},
		{slices.Repeat([]string{"a"}, 17), 0, api.ErrName},
		{wide(13), 254, api.OK},
		{wide(14), 255, api.OK},
		{wide(15), 0, api.ErrName},
		{slices.Repeat([]string{long(32)}, 7), 231, api.OK},
		{slices.Repeat([]string{long(32)}, 8), 0, api.ErrName},
		{append(slices.Repeat([]string{long(32)}, 7), long(23)), 255, api.OK},
		{append(slices.Repeat([]string{long(32)}, 7), long(24)), 0, api.ErrName},
		{slices.Repeat([]string{long(32)}, 16), 0, api.ErrName},
		{slices.Repeat([]string{"a"}, 1<<20), 0, api.ErrName},
		{slices.Repeat([]string{long(1 << 20)}, 1<<20), 0, api.ErrName},
	} {
		if path, e := Join(c.l); len(path) != c.size || e != c.err {
			t.Errorf("%d: %d bytes, %v", i, len(path), e)
		}
	}
}

// P16.1: names of any number and size are joined by the chapter's words; P16.2: and split into them again.
func TestJoinAll(t *testing.T) {
	for _, l := range lists() {
		kept := slices.Clone(l)
		path, e := Join(l)
		want, err := joined(l)
		if path != want || e != err {
			t.Errorf("Join(%.60q) = %q, %v", l, path, e)
		}
		if !slices.Equal(l, kept) {
			t.Errorf("%.60q is %.60q now", kept, l)
		}
		if back, err := Split(path); e == api.OK && (err != api.OK || !slices.Equal(back, l)) {
			t.Errorf("Split(Join(%.60q)) = %q, %v", l, back, err)
		}
	}
}

// P16.1 (R5): a call hangs on nothing that was asked before.
func TestAgain(t *testing.T) {
	for range 3 {
		for _, path := range []string{deep(16, 1), deep(17, 1), full(14), full(15)} {
			want, err := reckoned(path)
			if l, e := Split(path); e != err || !slices.Equal(l, want) {
				t.Errorf("Split(%q) = %q, %v", path, l, e)
			}
		}
	}
}

// P16.1: whether names begin others that have more.
func TestUnder(t *testing.T) {
	for _, c := range []struct {
		a, b string
		want bool
	}{
		{"/", "/", false},
		{"/", "/a", true},
		{"/", "/a/b", true},
		{"/a", "/", false},
		{"/a", "/a", false},
		{"/a", "/a/b", true},
		{"/a", "/a/b/c", true},
		{"/a/b", "/a", false},
		{"/a/b", "/a/b", false},
		{"/a/b", "/a/b/c", true},
		{"/b", "/a/b", false},
		{"/a/c", "/a/b/c", false},
		{"/b/b", "/a/b/c", false},
		{"/a", "/ab", false},
		{"/a", "/ab/c", false},
		{"/ab", "/a/b", false},
		{"/a", "/A/b", false},
		{"/b", "/a", false},
	} {
		a, _ := Split(c.a)
		b, _ := Split(c.b)
		if got := Under(a, b); got != c.want {
			t.Errorf("Under(%q, %q) = %v", a, b, got)
		}
	}
}

// P16.1: all short lists, of names that may not be, too, held against each other name by name.
func TestUnderAll(t *testing.T) {
	var l [][]string
	each([]string{"a,", "b,", ",", "a/b,"}, 4, func(s string) {
		list := strings.Split(s, ",")
		l = append(l, list[:len(list)-1])
	})
	for _, a := range l {
		for _, b := range l {
			want := len(b) > len(a)
			for i := range min(len(a), len(b)) {
				want = want && a[i] == b[i]
			}
			if got := Under(a, b); got != want {
				t.Fatalf("Under(%q, %q) = %v", a, b, got)
			}
		}
	}
}

// P16.1 (R1, R3, R4): no list, an empty one, the same one twice, and lists longer than a path's, none of which is changed.
func TestUnderAny(t *testing.T) {
	many := slices.Repeat([]string{""}, 1000)
	kept := slices.Clone(many)
	for i, c := range []struct{ got, want bool }{
		{Under(nil, nil), false},
		{Under([]string{}, nil), false},
		{Under(nil, []string{}), false},
		{Under([]string{}, []string{}), false},
		{Under(nil, []string{""}), true},
		{Under([]string{}, []string{""}), true},
		{Under([]string{""}, nil), false},
		{Under(many, many), false},
		{Under(many[:999], many), true},
		{Under(many[:0], many), true},
		{Under(many, many[:999]), false},
		{Under(append(slices.Clone(many[:998]), "a"), many), false},
	} {
		if c.got != c.want {
			t.Errorf("%d: %v", i, c.got)
		}
	}
	if !slices.Equal(many, kept) {
		t.Error("a list was changed")
	}
}
