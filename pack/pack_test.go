package pack

import (
	"bytes"
	"math"
	"strings"
	"testing"

	"flint/api"
)

// all is a number of which each byte is another one.
const all = 0x0102030405060708

// numbers are numbers at the edges of each width.
func numbers() []uint64 {
	l := []uint64{0, 1, 7, 127, 128, 255, 256, 258, all, 0xfedcba9876543210, math.MaxUint64, math.MaxUint64 - 1}
	for n := range 8 {
		x := uint64(1) << (8 * n)
		l = append(l, x-1, x, x+1, x<<7, 0xa5<<(8*n))
	}
	return l
}

// widths are how many bytes are asked for, and as how many that counts.
func widths() map[int]int {
	return map[int]int{
		1: 1, 2: 2, 3: 3, 4: 4, 5: 5, 6: 6, 7: 7, 8: 8,
		0: 1, -1: 1, -8: 1, math.MinInt: 1,
		9: 8, 16: 8, 255: 8, 256: 8, 1 << 32: 8, math.MaxInt: 8,
	}
}

// fronts are bytes that stand ahead of what is put.
func fronts() [][]byte {
	return [][]byte{nil, {}, {0}, {255}, []byte("x"), []byte("some bytes"), bytes.Repeat([]byte{3}, 300)}
}

// texts are texts at the edges of what one byte tells, and beyond them.
func texts() []string {
	l := []string{"", "\x00", "\xff", "\x00\xff\x00", "ab", "abc", "ä€\U0001f600", "\xc3", "\xed\xa0\x80"}
	for _, n := range []int{127, 128, 254, 255, 256, 257, 300, 511, 512, 70000} {
		l = append(l, strings.Repeat("0123456789abc", n)[:n])
	}
	return l
}

// lowest is a number's lowest n bytes.
func lowest(x uint64, n int) uint64 {
	if n == 8 {
		return x
	}
	return x % (1 << (8 * n))
}

// P3.1: the number's bytes stand behind those that there are, the highest one first; among them the chapter's example.
func TestPut(t *testing.T) {
	for _, c := range []struct {
		b    string
		n    int
		x    uint64
		want string
	}{
		{"", 2, 258, "\x01\x02"},
		{"", 1, 258, "\x02"},
		{"", 3, 258, "\x00\x01\x02"},
		{"", 8, 258, "\x00\x00\x00\x00\x00\x00\x01\x02"},
		{"", 1, 0, "\x00"},
		{"", 8, 0, "\x00\x00\x00\x00\x00\x00\x00\x00"},
		{"", 8, math.MaxUint64, "\xff\xff\xff\xff\xff\xff\xff\xff"},
		{"x", 4, 0x80000001, "x\x80\x00\x00\x01"},
		{"", 1, all, "\x08"},
		{"", 2, all, "\x07\x08"},
		{"", 3, all, "\x06\x07\x08"},
		{"", 4, all, "\x05\x06\x07\x08"},
		{"", 5, all, "\x04\x05\x06\x07\x08"},
		{"", 6, all, "\x03\x04\x05\x06\x07\x08"},
		{"", 7, all, "\x02\x03\x04\x05\x06\x07\x08"},
		{"ab", 8, all, "ab\x01\x02\x03\x04\x05\x06\x07\x08"},
	} {
		if got := Put([]byte(c.b), c.n, c.x); string(got) != c.want {
			t.Errorf("Put(%q, %d, %#x) = %q, not %q", c.b, c.n, c.x, got, c.want)
		}
	}
}

// P3.1: below 1 byte counts as 1, above 8 as 8.
func TestPutOfAnyWidth(t *testing.T) {
	for _, front := range fronts() {
		for _, x := range numbers() {
			for n, counts := range widths() {
				got := Put(front, n, x)
				if want := Put(front, counts, x); !bytes.Equal(got, want) {
					t.Fatalf("Put(%q, %d, %#x) = %q, not %q", front, n, x, got, want)
				}
				if len(got) != len(front)+counts || !bytes.Equal(got[:len(front)], front) {
					t.Fatalf("Put(%q, %d, %#x) = %q", front, n, x, got)
				}
			}
		}
	}
}

// P3.1: the number at a place, and the place behind it.
func TestGet(t *testing.T) {
	b := []byte{1, 2, 3, 4, 5, 6, 7, 8, 255, 254}
	for _, c := range []struct {
		at, n int
		x     uint64
		end   int
	}{
		{0, 1, 1, 1},
		{0, 2, 258, 2},
		{0, 3, 0x010203, 3},
		{0, 4, 0x01020304, 4},
		{0, 5, 0x0102030405, 5},
		{0, 6, 0x010203040506, 6},
		{0, 7, 0x01020304050607, 7},
		{0, 8, all, 8},
		{1, 1, 2, 2},
		{1, 8, 0x02030405060708ff, 9},
		{2, 8, 0x030405060708fffe, 10},
		{9, 1, 254, 10},
		{8, 2, 0xfffe, 10},
		{3, 0, 4, 4},
		{9, 0, 254, 10},
		{3, -1, 4, 4},
		{3, math.MinInt, 4, 4},
		{2, 9, 0x030405060708fffe, 10},
		{1, math.MaxInt, 0x02030405060708ff, 9},
	} {
		if x, end, err := Get(b, c.at, c.n); x != c.x || end != c.end || err != api.OK {
			t.Errorf("Get from %d of %d bytes: %#x, %d, %v, not %#x, %d", c.at, c.n, x, end, err, c.x, c.end)
		}
	}
}

// P3.1: ErrArg of a place that isn't among the bytes or just behind them, ErrShort of fewer bytes, and nothing beside them.
func TestGetOfWrong(t *testing.T) {
	b := []byte{1, 2, 3, 4, 5, 6, 7, 8, 255, 254}
	for _, c := range []struct {
		b     []byte
		at, n int
		want  api.Errno
	}{
		{b, -1, 1, api.ErrArg},
		{b, -1, 99, api.ErrArg},
		{b, 11, 1, api.ErrArg},
		{b, 11, 0, api.ErrArg},
		{b, math.MinInt, 1, api.ErrArg},
		{b, math.MaxInt, 8, api.ErrArg},
		{b, math.MaxInt, math.MaxInt, api.ErrArg},
		{b, math.MinInt, math.MaxInt, api.ErrArg},
		{b, 10, 1, api.ErrShort},
		{b, 10, 0, api.ErrShort},
		{b, 10, math.MinInt, api.ErrShort},
		{b, 9, 2, api.ErrShort},
		{b, 8, 3, api.ErrShort},
		{b, 3, 8, api.ErrShort},
		{b, 3, 9, api.ErrShort},
		{b, 3, math.MaxInt, api.ErrShort},
		{b, 4, 7, api.ErrShort},
		{nil, 0, 1, api.ErrShort},
		{nil, 0, 0, api.ErrShort},
		{nil, 0, math.MaxInt, api.ErrShort},
		{nil, 1, 1, api.ErrArg},
		{nil, -1, 1, api.ErrArg},
		{[]byte{}, 0, 1, api.ErrShort},
		{[]byte{}, 1, 1, api.ErrArg},
	} {
		if x, end, err := Get(c.b, c.at, c.n); x != 0 || end != 0 || err != c.want {
			t.Errorf("Get of %d bytes from %d of %d: %#x, %d, %v, not %v", len(c.b), c.at, c.n, x, end, err, c.want)
		}
	}
}

// P3.1: what stands in the memory behind the bytes isn't among them.
func TestGetStaysWithin(t *testing.T) {
	b := []byte{2, 'a', 'b', 'c'}
	if x, end, err := Get(b[:2], 1, 2); x != 0 || end != 0 || err != api.ErrShort {
		t.Errorf("Get: %#x, %d, %v", x, end, err)
	}
	if s, end, err := GetText(b[:2], 0, 9); s != "" || end != 0 || err != api.ErrShort {
		t.Errorf("GetText: %q, %d, %v", s, end, err)
	}
}

// P3.1: the text's length and its bytes stand behind those that there are.
func TestPutText(t *testing.T) {
	for _, c := range []struct{ b, s, want string }{
		{"", "ab", "\x02ab"},
		{"", "", "\x00"},
		{"x", "", "x\x00"},
		{"x", "abc", "x\x03abc"},
		{"xyz", "\x00\xff", "xyz\x02\x00\xff"},
	} {
		if got := PutText([]byte(c.b), c.s); string(got) != c.want {
			t.Errorf("PutText(%q, %q) = %q", c.b, c.s, got)
		}
	}
}

// P3.1: of more than 255 bytes the first 255 alone.
func TestPutTextOfAnyLength(t *testing.T) {
	for _, front := range fronts() {
		for _, s := range texts() {
			short := s
			if len(short) > 255 {
				short = short[:255]
			}
			want := string(front) + string([]byte{byte(len(short))}) + short
			if got := PutText(front, s); string(got) != want {
				t.Fatalf("PutText behind %d bytes of %d = %q", len(front), len(s), got)
			}
		}
	}
}

// P3.1: the text at a place, and the place behind it; among them the chapter's example.
func TestGetText(t *testing.T) {
	long := "\xff" + strings.Repeat("z", 255)
	for _, c := range []struct {
		b        string
		at, most int
		s        string
		end      int
	}{
		{"\x02ab", 0, 2, "ab", 3},
		{"\x02ab", 0, 3, "ab", 3},
		{"\x02ab", 0, math.MaxInt, "ab", 3},
		{"\x02abcd", 0, 2, "ab", 3},
		{"\x00", 0, 0, "", 1},
		{"\x00", 0, 5, "", 1},
		{"\x00\x00", 1, 0, "", 2},
		{"xy\x01\xff", 2, 1, "\xff", 4},
		{"xy\x01\xffz", 2, 255, "\xff", 4},
		{"\x03\x02ab", 1, 2, "ab", 4},
		{long, 0, 255, long[1:], 256},
		{long, 0, 256, long[1:], 256},
		{"x" + long + "y", 1, 255, long[1:], 257},
	} {
		if s, end, err := GetText([]byte(c.b), c.at, c.most); s != c.s || end != c.end || err != api.OK {
			t.Errorf("GetText(%q, %d, %d): %q, %d, %v", c.b, c.at, c.most, s, end, err)
		}
	}
}

// P3.1: of several errors the one that is named first; nothing beside an error.
func TestGetTextOfWrong(t *testing.T) {
	long := "\xff" + strings.Repeat("z", 255)
	for _, c := range []struct {
		b        string
		at, most int
		want     api.Errno
	}{
		{"\x02ab", -1, 2, api.ErrArg},
		{"\x02ab", -1, -1, api.ErrArg},
		{"\x02ab", 4, 2, api.ErrArg},
		{"\x02ab", math.MinInt, 2, api.ErrArg},
		{"\x02ab", math.MaxInt, 2, api.ErrArg},
		{"", 1, 0, api.ErrArg},
		{"", -1, 0, api.ErrArg},
		{"", 0, 0, api.ErrShort},
		{"", 0, -1, api.ErrShort},
		{"", 0, 255, api.ErrShort},
		{"\x02ab", 3, 2, api.ErrShort},
		{"\x02ab", 3, math.MinInt, api.ErrShort},
		{"\x02ab", 0, 1, api.ErrLong},
		{"\x02ab", 0, 0, api.ErrLong},
		{"\x02ab", 0, -1, api.ErrLong},
		{"\x02ab", 0, math.MinInt, api.ErrLong},
		{"\x00", 0, -1, api.ErrLong},
		{"\x02a", 0, 1, api.ErrLong},
		{"\x02", 0, 1, api.ErrLong},
		{"\x02", 0, 2, api.ErrShort},
		{"\x02a", 0, 2, api.ErrShort},
		{"\x02a", 0, 255, api.ErrShort},
		{"\x02a", 0, math.MaxInt, api.ErrShort},
		{"xy\x03ab", 2, 3, api.ErrShort},
		{long, 0, 254, api.ErrLong},
		{long[:255], 0, 254, api.ErrLong},
		{long[:255], 0, 255, api.ErrShort},
		{"\xff", 0, 255, api.ErrShort},
	} {
		if s, end, err := GetText([]byte(c.b), c.at, c.most); s != "" || end != 0 || err != c.want {
			t.Errorf("GetText(%q, %d, %d): %q, %d, %v, not %v", c.b, c.at, c.most, s, end, err, c.want)
		}
	}
}

// P3.2: a number that is put is got, whatever stands ahead of it and behind it; of more bytes the lowest ones are.
func TestPutIsGot(t *testing.T) {
	for _, front := range fronts() {
		for _, x := range numbers() {
			for n, counts := range widths() {
				b := append(Put(front, n, x), 9, 9)
				got, end, err := Get(b, len(front), n)
				if got != lowest(x, counts) || end != len(front)+counts || err != api.OK {
					t.Fatalf("%#x as %d bytes behind %d is got as %#x, %d, %v", x, n, len(front), got, end, err)
				}
			}
		}
	}
}

// P3.2: a number that is got stands there as it is put.
func TestGotIsPut(t *testing.T) {
	b := []byte{0, 0, 1, 255, 128, 0, 7, 254, 127, 3, 0, 0, 0, 9}
	for at := range b {
		for n := range widths() {
			x, end, err := Get(b, at, n)
			if err != api.OK {
				continue
			}
			if got := Put(b[:at], n, x); !bytes.Equal(got, b[:end]) {
				t.Errorf("%#x, got from %d of %d bytes, is put as %q", x, at, n, got)
			}
		}
	}
}

// P3.2: a text that is put is got, of more than 255 bytes the first 255 are.
func TestPutTextIsGot(t *testing.T) {
	for _, front := range fronts() {
		for _, s := range texts() {
			b := append(PutText(front, s), 9, 9)
			want := s[:min(len(s), 255)]
			for _, most := range []int{len(want), 255, math.MaxInt} {
				got, end, err := GetText(b, len(front), most)
				if got != want || end != len(b)-2 || err != api.OK {
					t.Fatalf("a text of %d bytes behind %d is got as %q, %d, %v", len(s), len(front), got, end, err)
				}
			}
		}
	}
}

// P3.2: a text that is got stands there as it is put, from whatever place on.
func TestGotTextIsPut(t *testing.T) {
	b := []byte("\x00\x02ab\x03\x00\xffz\x01\x01\x01\x05ä€")
	gone := 0
	for at := range b {
		for most := range 6 {
			s, end, err := GetText(b, at, most)
			if err != api.OK {
				continue
			}
			gone++
			if got := PutText(b[:at], s); !bytes.Equal(got, b[:end]) {
				t.Errorf("%q, got from %d, is put as %q", s, at, got)
			}
		}
	}
	if gone == 0 {
		t.Error("nothing was got")
	}
}

// P3.2: things put one behind the other are got so.
func TestRow(t *testing.T) {
	b := Put(nil, 4, 77)
	b = PutText(b, "name")
	b = Put(b, 8, all)
	b = PutText(b, "")
	x, at, _ := Get(b, 0, 4)
	s, at, _ := GetText(b, at, 32)
	y, at, _ := Get(b, at, 8)
	u, at, err := GetText(b, at, 32)
	if x != 77 || s != "name" || y != all || u != "" || at != len(b) || err != api.OK {
		t.Errorf("%d, %q, %#x, %q, %d, %v", x, s, y, u, at, err)
	}
}

// P3.1, R3: what is handed in isn't changed, nor the memory behind it, and isn't shared by what is answered.
func TestShared(t *testing.T) {
	whole := []byte("front and what is behind it")
	for name, put := range map[string]func([]byte) []byte{
		"Put":            func(b []byte) []byte { return Put(b, 4, all) },
		"PutText":        func(b []byte) []byte { return PutText(b, "text") },
		"PutText of ''":  func(b []byte) []byte { return PutText(b, "") },
		"Put of no byte": func(b []byte) []byte { return Put(b, 0, 0) },
	} {
		b := bytes.Clone(whole)
		first := put(b[:5])
		second := put(b[:5])
		if !bytes.Equal(b, whole) {
			t.Errorf("%s changed what it was handed: %q", name, b)
		}
		want := bytes.Clone(first)
		for i := range b {
			b[i] = 0
		}
		for i := range second {
			second[i] = 0
		}
		if !bytes.Equal(first, want) {
			t.Errorf("%s's answer is shared: %q, not %q", name, first, want)
		}
	}
}

// P3.1, R3: a text that was got stays, whoever writes into the bytes later.
func TestTextStays(t *testing.T) {
	b := []byte("\x02ab")
	s, _, _ := GetText(b, 0, 2)
	Get(b, 0, 3)
	if string(b) != "\x02ab" {
		t.Errorf("the bytes are %q", b)
	}
	b[1] = 'x'
	if s != "ab" {
		t.Errorf("the text is %q", s)
	}
}
