package keys

import (
	"encoding/binary"
	"math"
	"strings"
	"testing"
)

// made is what a key was made of.
type made struct {
	letter byte
	number uint32
	name   string
	which  int
}

// numbers are those of inodes, at the edges of each byte and between them.
func numbers() []uint32 {
	l := []uint32{0, 1, 2, 7, 46, 47, 127, 128, 258, 65279, 65281, 0x00ff00ff, 0x01020304, 0xff00ff00, 0xfeffffff, math.MaxUint32 - 1}
	for n := range 4 {
		x := uint32(1) << (8 * n)
		l = append(l, 255*x, 254*x, 255*x+1, x+1, x<<7)
		if n > 0 {
			l = append(l, x-1, x)
		}
	}
	return append(l, math.MaxUint32)
}

// names are an entry's of which a key can be made and split, those that may not be among them.
func names() []string {
	l := []string{
		"a", "b", "ab", "aa", "abc", "A", "I", "E", "D", "F", ".", "..", "...", "/", "a/b", "\x00", "\x00\x00", "a\x00", "\x00a",
		"\x01", "\xff", "\xff\xff", "\xfe\xff", "\xff\x00", "ä", "€", "\U0001f600", "\xc3", "I\x00\x00\x00\x01", "E\x00\x00\x00\x01a", "D\x00\x00\x00\x01\x00\x00",
	}
	for _, c := range []string{"\x00", "a", "/", "\xff"} {
		l = append(l, strings.Repeat(c, 31), strings.Repeat(c, 32))
	}
	return l
}

// blocks are numbers of blocks of which a key can be made.
func blocks() []int {
	return []int{0, 1, 2, 63, 64, 65, 127, 128, 254, 255, 256, 257, 258, 259, 511, 512, 4095, 4096, 32767, 32768, 65279, 65280, 65534, 65535}
}

// noBlocks are numbers of which none can.
func noBlocks() []int {
	return []int{-1, -2, -255, -65535, -65536, -65537, math.MinInt32, math.MinInt, 65536, 65537, 70000, 1 << 17, 1 << 24, math.MaxInt32, 1 << 32, 1<<32 + 1, math.MaxInt}
}

// reckoned is a key, by the chapter's words.
func reckoned(x made) string {
	head := string(binary.BigEndian.AppendUint32([]byte{x.letter}, x.number))
	switch x.letter {
	case 'E':
		return head + x.name
	case 'D':
		return string(binary.BigEndian.AppendUint16([]byte(head), uint16(x.which)))
	}
	return head
}

// put is a key, as it is made.
func put(x made) string {
	switch x.letter {
	case 'E':
		return Entry(x.number, x.name)
	case 'D':
		return Block(x.number, x.which)
	}
	return Inode(x.number)
}

// split is what a text is split into.
func split(key string) made {
	letter, number, name, which := Split(key)
	return made{letter, number, name, which}
}

// all are what keys of all kinds are made of.
func all() []made {
	var l []made
	for _, n := range numbers() {
		l = append(l, made{letter: 'I', number: n})
		for _, name := range names() {
			l = append(l, made{letter: 'E', number: n, name: name})
		}
		for _, which := range blocks() {
			l = append(l, made{letter: 'D', number: n, which: which})
		}
	}
	return l
}

// P9.1: keys of all kinds; among them the chapter's example.
func TestKeys(t *testing.T) {
	for _, c := range []struct{ got, want string }{
		{Entry(1, "a"), "E\x00\x00\x00\x01a"},
		{Entry(258, "ab"), "E\x00\x00\x01\x02ab"},
		{Entry(math.MaxUint32, "\x00\xff"), "E\xff\xff\xff\xff\x00\xff"},
		{Inode(0), "I\x00\x00\x00\x00"},
		{Inode(1), "I\x00\x00\x00\x01"},
		{Inode(0x01020304), "I\x01\x02\x03\x04"},
		{Inode(math.MaxUint32), "I\xff\xff\xff\xff"},
		{Block(1, 0), "D\x00\x00\x00\x01\x00\x00"},
		{Block(0x01020304, 259), "D\x01\x02\x03\x04\x01\x03"},
		{Block(math.MaxUint32, 65535), "D\xff\xff\xff\xff\xff\xff"},
	} {
		if c.got != c.want {
			t.Errorf("%q, not %q", c.got, c.want)
		}
	}
	for _, x := range all() {
		if got := put(x); got != reckoned(x) {
			t.Errorf("%+v: %q, not %q", x, got, reckoned(x))
		}
	}
}

// P9.1: of a name of any length; of more than 32 bytes the empty text.
func TestEntryOfAnyLength(t *testing.T) {
	for n := range 600 {
		for _, c := range []string{"a", "\x00", "/", "\xff"} {
			name, want := strings.Repeat(c, n), ""
			if n <= 32 {
				want = "E\x00\x00\x01\x00" + name
			}
			if got := Entry(256, name); got != want {
				t.Errorf("of %d bytes: %q", n, got)
			}
		}
	}
	for _, name := range []string{strings.Repeat("€", 11), strings.Repeat("x", 1<<20), strings.Repeat("€", 10) + "abc"} {
		if got := Entry(1, name); got != "" {
			t.Errorf("of %d bytes: %q", len(name), got)
		}
	}
	if got := Entry(1, strings.Repeat("€", 10)+"ab"); len(got) != 37 {
		t.Errorf("of 32 bytes that are fewer runes: %q", got)
	}
}

// P9.1: of a number of a block that isn't from 0 to 65535 the empty text.
func TestBlockOfWrong(t *testing.T) {
	for _, n := range noBlocks() {
		for _, ino := range numbers() {
			if got := Block(ino, n); got != "" {
				t.Errorf("Block(%d, %d) = %q", ino, n, got)
			}
		}
	}
}

// P9.1: what a key is split into.
func TestSplit(t *testing.T) {
	for _, c := range []struct {
		key  string
		want made
	}{
		{"E\x00\x00\x00\x01a", made{'E', 1, "a", 0}},
		{"I\x01\x02\x03\x04", made{'I', 0x01020304, "", 0}},
		{"I\x00\x00\x00\x00", made{'I', 0, "", 0}},
		{"I\xff\xff\xff\xff", made{'I', math.MaxUint32, "", 0}},
		{"D\x00\x00\x00\x01\x01\x03", made{'D', 1, "", 259}},
		{"D\x00\x00\x00\x00\x00\x00", made{'D', 0, "", 0}},
		{"D\xff\xff\xff\xff\xff\xff", made{'D', math.MaxUint32, "", 65535}},
		{"E\x00\x00\x00\x00\x01\x03", made{'E', 0, "\x01\x03", 0}},
		{"E\x00\x00\x00\x02.", made{'E', 2, ".", 0}},
		{"E\x00\x00\x00\x02..", made{'E', 2, "..", 0}},
		{"E\x00\x00\x00\x02a/b", made{'E', 2, "a/b", 0}},
		{"E\x00\x00\x00\x02\x00", made{'E', 2, "\x00", 0}},
		{"E\x80\x00\x00\x00\xff" + strings.Repeat("z", 31), made{'E', 1 << 31, "\xff" + strings.Repeat("z", 31), 0}},
	} {
		if got := split(c.key); got != c.want {
			t.Errorf("Split(%q): %+v, not %+v", c.key, got, c.want)
		}
	}
}

// P9.1: all zero of a text that is no key.
func TestSplitOfWrong(t *testing.T) {
	for _, key := range []string{
		"", "I", "E", "D", "a", "\x00", "\xff",
		"I\x00\x00\x00", "I\x00\x00\x00\x01\x00", "I\x00\x00\x00\x01a", "I\x00\x00\x00\x01\x00\x00",
		"E\x00\x00\x00", "E\x00\x00\x00\x01", "E\x00\x00\x00\x01" + strings.Repeat("a", 33),
		"D\x00\x00\x00", "D\x00\x00\x00\x01", "D\x00\x00\x00\x01\x00", "D\x00\x00\x00\x01\x00\x00\x00",
		"F\x00\x00\x00\x01", "i\x00\x00\x00\x01", "e\x00\x00\x00\x01a", "d\x00\x00\x00\x01\x00\x00",
		" I\x00\x00\x00\x01", "I\x00\x00\x00\x01 ", "É\x00\x00\x00\x01", "\x00\x00\x00\x00\x00", "\x00\x00\x00\x00\x00\x00\x00",
		strings.Repeat("I", 1<<20), strings.Repeat("E", 1<<20), strings.Repeat("D", 1<<20),
	} {
		if got := split(key); got != (made{}) {
			t.Errorf("Split(%q): %+v", key, got)
		}
	}
}

// P9.1: what is no key of its letter and its length is none, and all others are.
func TestSplitOfAnyLength(t *testing.T) {
	rest := strings.Repeat("\x00\x01\x02\xff/.a", 10)
	for letter := range 256 {
		for n := range 60 {
			key := string([]byte{byte(letter)}) + rest[:n]
			var want made
			switch {
			case letter == 'I' && n == 4:
				want = made{letter: 'I', number: 0x000102ff}
			case letter == 'E' && n > 4 && n <= 36:
				want = made{letter: 'E', number: 0x000102ff, name: rest[4:n]}
			case letter == 'D' && n == 6:
				want = made{letter: 'D', number: 0x000102ff, which: '/'<<8 | '.'}
			}
			if got := split(key); got != want {
				t.Errorf("Split(%q): %+v, not %+v", key, got, want)
			}
		}
	}
}

// P9.2: a key is split into what it was made of.
func TestThereAndBack(t *testing.T) {
	for _, x := range all() {
		if got := split(put(x)); got != x {
			t.Errorf("%+v comes back as %+v", x, got)
		}
	}
	for which := range 65536 {
		x := made{letter: 'D', number: uint32(which) * 65537, which: which}
		if got := split(put(x)); got != x {
			t.Fatalf("%+v comes back as %+v", x, got)
		}
	}
}

// P9.2: two keys that were made of others are others.
func TestOthersAreOthers(t *testing.T) {
	seen := make(map[string]made)
	for _, x := range all() {
		key := put(x)
		if y, ok := seen[key]; ok && y != x {
			t.Errorf("%q is the key of %+v and of %+v", key, x, y)
		}
		seen[key] = x
	}
	for _, x := range all() {
		delete(seen, put(x))
	}
	if len(seen) != 0 {
		t.Errorf("%d keys are others the second time", len(seen))
	}
}

// P9.2: any text is no key, or the one of what it is split into.
func TestAnyText(t *testing.T) {
	x, kinds := uint32(1), make(map[byte]int)
	next := func(n int) int {
		x = x*1664525 + 1013904223
		return int(x>>8) % n
	}
	for range 200000 {
		b := make([]byte, next(42))
		for i := range b {
			b[i] = byte(next(256))
		}
		if len(b) > 0 && next(8) > 0 {
			b[0] = "IED"[next(3)]
		}
		key := string(b)
		got := split(key)
		if got != (made{}) && reckoned(got) != key {
			t.Fatalf("Split(%q): %+v", key, got)
		}
		kinds[got.letter]++
	}
	if len(kinds) != 4 || kinds[0] < 1000 || kinds['I'] < 1000 || kinds['E'] < 1000 || kinds['D'] < 1000 {
		t.Errorf("only %v", kinds)
	}
}

// P9.3: from where to where entries and blocks stand.
func TestRanges(t *testing.T) {
	type span struct{ from, to string }
	of := func(from, to string) span { return span{from, to} }
	for _, c := range []struct{ got, want span }{
		{of(Entries(0)), span{"E\x00\x00\x00\x00", "E\x00\x00\x00\x01"}},
		{of(Entries(1)), span{"E\x00\x00\x00\x01", "E\x00\x00\x00\x02"}},
		{of(Entries(254)), span{"E\x00\x00\x00\xfe", "E\x00\x00\x00\xff"}},
		{of(Entries(255)), span{"E\x00\x00\x00\xff", "E\x00\x00\x01"}},
		{of(Entries(256)), span{"E\x00\x00\x01\x00", "E\x00\x00\x01\x01"}},
		{of(Entries(0xffff)), span{"E\x00\x00\xff\xff", "E\x00\x01"}},
		{of(Entries(0x02ffffff)), span{"E\x02\xff\xff\xff", "E\x03"}},
		{of(Entries(0xff00ff00)), span{"E\xff\x00\xff\x00", "E\xff\x00\xff\x01"}},
		{of(Entries(math.MaxUint32)), span{"E\xff\xff\xff\xff", "F"}},
		{of(Blocks(1, 3)), span{"D\x00\x00\x00\x01\x00\x03", "D\x00\x00\x00\x02"}},
		{of(Blocks(0, 0)), span{"D\x00\x00\x00\x00\x00\x00", "D\x00\x00\x00\x01"}},
		{of(Blocks(255, -1)), span{"D\x00\x00\x00\xff\x00\x00", "D\x00\x00\x01"}},
		{of(Blocks(7, math.MinInt)), span{"D\x00\x00\x00\x07\x00\x00", "D\x00\x00\x00\x08"}},
		{of(Blocks(7, 65535)), span{"D\x00\x00\x00\x07\xff\xff", "D\x00\x00\x00\x08"}},
		{of(Blocks(math.MaxUint32, 258)), span{"D\xff\xff\xff\xff\x01\x02", "E"}},
	} {
		if c.got != c.want {
			t.Errorf("%+q, not %+q", c.got, c.want)
		}
	}
}

// P9.3: just a directory's own entries stand in its range.
func TestEntriesHaveJustTheirKeys(t *testing.T) {
	l := all()
	for _, dir := range numbers() {
		from, to := Entries(dir)
		for _, x := range l {
			key := put(x)
			stands, want := from <= key && key < to, x.letter == 'E' && x.number == dir
			if stands != want {
				t.Errorf("%q from %q to %q: %v", key, from, to, stands)
			}
		}
	}
}

// P9.3: just a file's own blocks from one on stand in its range.
func TestBlocksHaveJustTheirKeys(t *testing.T) {
	l := all()
	for _, ino := range numbers() {
		for _, first := range append(blocks()[:len(blocks()):len(blocks())], -1, math.MinInt, 65536, math.MaxInt) {
			from, to := Blocks(ino, first)
			for _, x := range l {
				key := put(x)
				stands, want := from <= key && key < to, x.letter == 'D' && x.number == ino && x.which >= first
				if stands != want {
					t.Fatalf("%q from %q to %q: %v", key, from, to, stands)
				}
			}
		}
	}
}

// P9.3: below 0 counts as 0, above 65535 nothing stands, as both ends are the same.
func TestBlocksFromWrong(t *testing.T) {
	for _, ino := range numbers() {
		first, end := Blocks(ino, 0)
		for _, n := range noBlocks() {
			from, to := Blocks(ino, n)
			if n < 0 && (from != first || to != end) || n > 0 && from != to {
				t.Errorf("Blocks(%d, %d) = %q, %q", ino, n, from, to)
			}
		}
	}
}
