package keys

import (
	"strings"
	"testing"
)

// P9.1: whether a name may be.
func TestName(t *testing.T) {
	for _, c := range []struct {
		name string
		want bool
	}{
		{"a", true},
		{"a name", true},
		{"", false},
		{".", false},
		{"..", false},
		{"...", true},
		{".a", true},
		{"a.", true},
		{"..a", true},
		{"a..", true},
		{". ", true},
		{".\xff", true},
		{"/", false},
		{"a/b", false},
		{"/a", false},
		{"a/", false},
		{"./", false},
		{"../", false},
		{"\x00", false},
		{"a\x00", false},
		{"\x00a", false},
		{"a\x00b", false},
		{".\x00", false},
		{"\\", true},
		{"\n", true},
		{"\x01", true},
		{"\x7f", true},
		{"äöü", true},
		{"€", true},
		{"\U0001f600", true},
		{"\u2044\u2215\uff0f", true},
		{"\u012f\u2f00", true},
		{"\ufffd", true},
		{"ä/ö", false},
		{"€\x00", false},
		{"\U0001f600/", false},
	} {
		if got := Name(c.name); got != c.want {
			t.Errorf("Name(%q) = %v", c.name, got)
		}
	}
}

// P9.1: bytes that are no runes may be in a name; a byte 0 or a slash among them may not.
func TestNameOfNoRunes(t *testing.T) {
	for _, s := range []string{"\xff", "\x80", "\xbf", "\xc0\xaf", "\xc0\x80", "\xe0\x80\xaf", "\xed\xa0\x80", "\xf4\x90\x80\x80", "\xc3", "\xe2\x82", "\xf0\x9f\x98", "\xff\xfe\xfd"} {
		for _, may := range []string{s, s + "a", "a" + s, s + s, "." + s} {
			if !Name(may) {
				t.Errorf("Name(%q) is false", may)
			}
		}
		for _, bad := range []string{"/", "\x00"} {
			for _, not := range []string{s + bad, bad + s, s + bad + s, s[:1] + bad + s[1:]} {
				if Name(not) {
					t.Errorf("Name(%q) is true", not)
				}
			}
		}
	}
}

// P9.1: a name of 1 to 32 bytes may be, however many runes these are.
func TestNameOfAnyLength(t *testing.T) {
	for n := range 600 {
		want := n >= 1 && n <= 32
		for _, c := range []string{"a", "\xff", "\x01"} {
			if got := Name(strings.Repeat(c, n)); got != want {
				t.Errorf("of %d bytes %q: %v", n, c, got)
			}
		}
		if got := Name(strings.Repeat(".", n)); got != (want && n > 2) {
			t.Errorf("of %d dots: %v", n, got)
		}
	}
	for _, c := range []struct {
		name string
		want bool
	}{
		{strings.Repeat("ä", 16), true},
		{strings.Repeat("ä", 16) + "a", false},
		{strings.Repeat("ä", 32), false},
		{strings.Repeat("€", 10) + "ab", true},
		{strings.Repeat("€", 11), false},
		{strings.Repeat("\U0001f600", 8), true},
		{strings.Repeat("\U0001f600", 9), false},
		{strings.Repeat("x", 1<<20), false},
	} {
		if got := Name(c.name); got != c.want {
			t.Errorf("of %d bytes: %v", len(c.name), got)
		}
	}
}

// P9.1: at each place of a name, each byte but 0 and the slash may be.
func TestNameOfAnyByte(t *testing.T) {
	for n := range 33 {
		for at := range n {
			for x := range 256 {
				b := []byte(strings.Repeat("n", n))
				b[at] = byte(x)
				want := x != 0 && x != '/' && (n > 1 || x != '.')
				if got := Name(string(b)); got != want {
					t.Errorf("Name(%q) = %v", b, got)
				}
			}
		}
	}
}
