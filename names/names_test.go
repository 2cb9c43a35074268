package names

import (
	"slices"
	"strings"
	"testing"

	"flint/api"
)

// long is a name of so many bytes.
func long(n int) string { return strings.Repeat("n", n) }

// deep is a path of so many names, one of so many bytes ahead of others of one byte.
func deep(names, first int) string { return "/" + long(first) + strings.Repeat("/a", names-1) }

// full is a path of 15 names of 15 bytes, and of one more of so many.
func full(last int) string { return strings.Repeat("/"+long(15), 15) + "/" + long(last) }

// mayName is whether a name may be, by the words of layer 9.
func mayName(name string) bool {
	return len(name) >= 1 && len(name) <= 32 && name != "." && name != ".." && !strings.Contains(name, "\x00") && !strings.Contains(name, "/")
}

// reckoned are a path's names, by the chapter's words: byte by byte.
func reckoned(path string) ([]string, api.Errno) {
	if len(path) == 0 || len(path) > 255 {
		return nil, api.ErrName
	}
	if path[0] != '/' {
		return nil, api.ErrInvalid
	}
	var l []string
	for i := range len(path) {
		if path[i] == '/' {
			l = append(l, "")
		} else {
			l[len(l)-1] += path[i : i+1]
		}
	}
	if len(path) == 1 {
		l = nil
	}
	for _, name := range l {
		if !mayName(name) {
			return nil, api.ErrName
		}
	}
	if len(l) > 16 {
		return nil, api.ErrName
	}
	return l, api.OK
}

// each hands on all texts of at most so many of these parts.
func each(parts []string, most int, do func(s string)) {
	var longer func(s string, left int)
	longer = func(s string, left int) {
		do(s)
		for _, p := range parts {
			if left > 0 {
				longer(s+p, left-1)
			}
		}
	}
	longer("", most)
}

// P16.1: a path's names, the chapter's example among them.
func TestSplit(t *testing.T) {
	for _, c := range []struct {
		path string
		want []string
	}{
		{"/", nil},
		{"/a", []string{"a"}},
		{"/a/bc", []string{"a", "bc"}},
		{"/a/a/a", []string{"a", "a", "a"}},
		{"/...", []string{"..."}},
		{"/.a/b./..c", []string{".a", "b.", "..c"}},
		{"/ / ", []string{" ", " "}},
		{"/a\\b/\n\x01", []string{"a\\b", "\n\x01"}},
		{"/ä/€/\U0001f600", []string{"ä", "€", "\U0001f600"}},
		{"/\xff/\xc3\xff", []string{"\xff", "\xc3\xff"}},
		{"/\u2044/\u2215", []string{"\u2044", "\u2215"}},
		{"/" + long(32), []string{long(32)}},
		{"/" + strings.Repeat("ä", 16), []string{strings.Repeat("ä", 16)}},
		{"/a/" + long(32) + "/b", []string{"a", long(32), "b"}},
		{deep(16, 2), append([]string{"nn"}, slices.Repeat([]string{"a"}, 15)...)},
	} {
		if l, e := Split(c.path); e != api.OK || !slices.Equal(l, c.want) {
			t.Errorf("Split(%q) = %q, %v", c.path, l, e)
		}
	}
}

// P16.1: what is no path is told by its error, and no names are answered.
func TestSplitWrong(t *testing.T) {
	for _, c := range []struct {
		path string
		want api.Errno
	}{
		{"", api.ErrName},
		{"a", api.ErrInvalid},
		{"a/b", api.ErrInvalid},
		{" /a", api.ErrInvalid},
		{".", api.ErrInvalid},
		{"./a", api.ErrInvalid},
		{"../a", api.ErrInvalid},
		{"\\a", api.ErrInvalid},
		{"\x00", api.ErrInvalid},
		{"\x00/a", api.ErrInvalid},
		{"\u2044a", api.ErrInvalid},
		{"\xaf", api.ErrInvalid},
		{"//", api.ErrName},
		{"///", api.ErrName},
		{"/a/", api.ErrName},
		{"//a", api.ErrName},
		{"/a//b", api.ErrName},
		{"/a/b//", api.ErrName},
		{"/.", api.ErrName},
		{"/..", api.ErrName},
		{"/./a", api.ErrName},
		{"/a/.", api.ErrName},
		{"/a/../b", api.ErrName},
		{"/a/..", api.ErrName},
		{"/\x00", api.ErrName},
		{"/a\x00", api.ErrName},
		{"/a/\x00b", api.ErrName},
		{"/" + long(33), api.ErrName},
		{"/a/" + long(33), api.ErrName},
		{"/" + long(33) + "/a", api.ErrName},
		{"/" + strings.Repeat("€", 11), api.ErrName},
		{"/" + long(254), api.ErrName},
	} {
		if l, e := Split(c.path); e != c.want || len(l) != 0 {
			t.Errorf("Split(%q) = %q, %v", c.path, l, e)
		}
	}
}

// P16.1 (R2): the error that the chapter names first: too long, then without a slash, then a name that may not be.
func TestSplitFirstError(t *testing.T) {
	for _, c := range []struct {
		path string
		want api.Errno
	}{
		{long(255), api.ErrInvalid},
		{long(256), api.ErrName},
		{long(1 << 20), api.ErrName},
		{"a//b", api.ErrInvalid},
		{"a/", api.ErrInvalid},
		{"../..", api.ErrInvalid},
		{"a\x00", api.ErrInvalid},
		{long(33) + "/a", api.ErrInvalid},
		{"a" + deep(17, 1), api.ErrInvalid},
		{"a" + strings.Repeat("/", 254), api.ErrInvalid},
		{"a" + strings.Repeat("/", 255), api.ErrName},
		{"a" + full(14), api.ErrName},
	} {
		if l, e := Split(c.path); e != c.want || len(l) != 0 {
			t.Errorf("Split(%q) = %q, %v", c.path, l, e)
		}
	}
}

// P16.1: as many names and as many bytes as a path may have, and one more.
func TestSplitLimits(t *testing.T) {
	for _, c := range []struct {
		path string
		size int
		want api.Errno
	}{
		{deep(15, 1), 30, api.OK},
		{deep(16, 1), 32, api.OK},
		{deep(17, 1), 34, api.ErrName},
		{deep(127, 2), 255, api.ErrName},
		{deep(16, 32), 63, api.OK},
		{full(13), 254, api.OK},
		{full(14), 255, api.OK},
		{full(15), 256, api.ErrName},
		{full(14) + "/", 256, api.ErrName},
		{strings.Repeat("/"+long(32), 7) + "/" + long(23), 255, api.OK},
		{strings.Repeat("/"+long(32), 7) + "/" + long(24), 256, api.ErrName},
		{strings.Repeat("/", 255), 255, api.ErrName},
		{strings.Repeat("/", 256), 256, api.ErrName},
		{strings.Repeat("/a", 1<<20), 1 << 21, api.ErrName},
	} {
		l, e := Split(c.path)
		if len(c.path) != c.size || e != c.want || e != api.OK && len(l) != 0 || e == api.OK && len(l) != strings.Count(c.path, "/") {
			t.Errorf("Split of %d bytes (%.20q..) = %q, %v", len(c.path), c.path, l, e)
		}
	}
}

// P16.1: all texts of some bytes, and of some names, are split by the chapter's words; P16.2: what is split is joined to the path.
func TestSplitAll(t *testing.T) {
	paths := 0
	held := func(path string) {
		l, e := Split(path)
		want, err := reckoned(path)
		if e != err || !slices.Equal(l, want) {
			t.Fatalf("Split(%q) = %q, %v", path, l, e)
		}
		if e != api.OK {
			return
		}
		paths++
		if back, err := Join(l); back != path || err != api.OK {
			t.Fatalf("Join(Split(%q)) = %q, %v", path, back, err)
		}
	}
	each([]string{"/", ".", "a", "\x00", "\xff"}, 7, held)
	each([]string{"/", "/a", "/..", long(16), "/" + long(31)}, 7, held)
	if paths < 4000 {
		t.Errorf("only %d paths", paths)
	}
}

// P16.1: a path of names of any number and any size, with some short ones behind them.
func TestSplitOfAnySize(t *testing.T) {
	for names := range 19 {
		for size := range 40 {
			for short := range 19 {
				path := strings.Repeat("/"+long(size), names) + strings.Repeat("/a", short)
				want, err := reckoned(path)
				if l, e := Split(path); e != err || !slices.Equal(l, want) {
					t.Errorf("of %d names of %d bytes, and %d: %q, %v", names, size, short, l, e)
				}
			}
		}
	}
}

// P16.1 (R3): names that were answered are new memory.
func TestSplitNew(t *testing.T) {
	l, _ := Split("/a/b")
	l[0] = "x"
	_ = append(l[:1], "y", "z")
	if again, e := Split("/a/b"); e != api.OK || !slices.Equal(again, []string{"a", "b"}) {
		t.Errorf("%q, %v", again, e)
	}
}
