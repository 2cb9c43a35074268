package sum

import (
	"bytes"
	"hash/adler32"
	"math"
	"strconv"
	"testing"
)

// long is a text whose parts go round many times, of which no two stretches are alike.
func long(n int) []byte {
	b := make([]byte, n)
	x := uint32(1)
	for i := range b {
		x = x*1664525 + 1013904223
		b[i] = byte(x >> 24)
	}
	return b
}

// texts are ordinary ones, and those at the edges: none, one byte, zeros alone, the greatest bytes alone.
func texts() [][]byte {
	return [][]byte{
		nil,
		{},
		{0},
		{1},
		{255},
		[]byte("a"),
		[]byte("123456789"),
		[]byte("TxNR"),
		make([]byte, 300),
		bytes.Repeat([]byte{255}, 300),
		bytes.Repeat([]byte{240}, 273), // its low part goes round to 0
		long(1000),
	}
}

// edges are sums at the edges of what may be, whether bytes have them or not.
func edges() []uint32 {
	return []uint32{
		0,
		1,
		2,
		65520,
		1 << 16,
		65520 << 16,
		65520<<16 | 1,
		65520<<16 | 65520,
		0x091e01de,
		0x80008000,
	}
}

// wrong are sums that may not be.
func wrong() []uint32 {
	return []uint32{
		65521,
		65535,
		65520<<16 | 65521,
		65521 << 16,
		65521<<16 | 1,
		65521<<16 | 65520,
		65521<<16 | 65521,
		65535 << 16,
		math.MaxUint32,
	}
}

// joined is what Join is to answer, by the chapter's words, in numbers that can't go beyond their bits.
func joined(a, b uint32, n int) uint32 {
	lowA, highA := int64(a&0xffff), int64(a>>16)
	lowB, highB := int64(b&0xffff), int64(b>>16)
	low := (lowA + lowB - 1 + 65521) % 65521
	high := (highA + highB + int64(n)%65521*(lowA-1+65521)) % 65521
	return uint32(high*65536 + low)
}

// P1.1: the sums of known texts, among them the chapter's examples.
func TestSumOfKnownTexts(t *testing.T) {
	for _, c := range []struct {
		text string
		want uint32
	}{
		{"", 1},
		{"\x00", 0x00010001},
		{"\xff", 0x01000100},
		{"a", 0x00620062},
		{"ab", 0x012600c4},
		{"abc", 0x024d0127},
		{"123456789", 0x091e01de},
		{"Wikipedia", 0x11e60398},
	} {
		if got := Sum([]byte(c.text)); got != c.want {
			t.Errorf("Sum(%q) = %#08x, not %#08x", c.text, got, c.want)
		}
	}
	if got := Sum(nil); got != 1 {
		t.Errorf("Sum(nil) = %#08x, not 1", got)
	}
}

// P1.1: the sum is the one that others reckon, also where its parts go round.
func TestSumOfManyBytes(t *testing.T) {
	all := long(200000)
	for _, n := range []int{1, 255, 256, 257, 258, 5551, 5552, 5553, 65520, 65521, 65522, 200000} {
		for _, b := range [][]byte{all[:n], make([]byte, n), bytes.Repeat([]byte{255}, n)} {
			if got, want := Sum(b), adler32.Checksum(b); got != want {
				t.Errorf("Sum of %d bytes from %d on = %#08x, not %#08x", n, b[0], got, want)
			}
		}
	}
}

// P1.1: each part goes round just as it comes to 65521, not later.
func TestSumGoesRound(t *testing.T) {
	low := bytes.Repeat([]byte{240}, 273) // 1 and 65520
	if got := Sum(low) & 0xffff; got != 0 {
		t.Errorf("the low part is %d, not 0", got)
	}
	if got := Sum(make([]byte, 65520)); got != 65520<<16|1 {
		t.Errorf("Sum of 65520 zeros = %#08x", got)
	}
	if got := Sum(make([]byte, 65521)); got != 1 {
		t.Errorf("Sum of 65521 zeros = %#08x, not 1", got)
	}
}

// P1.1: a sum may be, if both parts are below 65521.
func TestMay(t *testing.T) {
	for _, s := range edges() {
		if !May(s) {
			t.Errorf("May(%#08x) is false", s)
		}
	}
	for _, s := range wrong() {
		if May(s) {
			t.Errorf("May(%#08x) is true", s)
		}
	}
	for part := range uint32(65536) {
		want := part < 65521
		if May(part) != want || May(part<<16) != want || May(part<<16|part) != want {
			t.Fatalf("May of the part %d isn't %v", part, want)
		}
	}
	for _, b := range texts() {
		if !May(Sum(b)) {
			t.Errorf("the sum of %v may not be", b)
		}
	}
}

// P1.1: behind a sum that may not be there is nothing to put bytes to.
func TestMoreOfWrongSums(t *testing.T) {
	for _, s := range wrong() {
		for _, b := range texts() {
			if got := More(s, b); got != s {
				t.Errorf("More(%#08x, %v) = %#08x", s, b, got)
			}
		}
	}
}

// P1.1: no bytes more leave every sum as it is.
func TestMoreOfNothing(t *testing.T) {
	for _, s := range append(edges(), wrong()...) {
		if More(s, nil) != s || More(s, []byte{}) != s {
			t.Errorf("More(%#08x, none) = %#08x", s, More(s, nil))
		}
	}
}

// P1.1: More goes on from sums at the edges, step by step as the chapter says.
func TestMoreFromEdges(t *testing.T) {
	for _, s := range edges() {
		for x := range 256 {
			low := (s&0xffff + uint32(x)) % 65521
			high := (s>>16 + low) % 65521
			if got := More(s, []byte{byte(x)}); got != high*65536+low {
				t.Fatalf("More(%#08x, %d) = %#08x, not %#08x", s, x, got, high*65536+low)
			}
		}
	}
}

// P1.1: Join answers by its words of any two sums that may be, also of those that go below 0, or round.
func TestJoinOfEdges(t *testing.T) {
	counts := []int{1, 2, 9, 255, 65520, 65521, 65522, 65521 * 2, math.MaxInt32, math.MaxInt - 1, math.MaxInt}
	for _, a := range edges() {
		for _, b := range edges() {
			for _, n := range counts {
				if got, want := Join(a, b, n), joined(a, b, n); got != want {
					t.Errorf("Join(%#08x, %#08x, %d) = %#08x, not %#08x", a, b, n, got, want)
				}
			}
		}
	}
	if got := Join(0, 0, 1); got != 65520<<16|65520 {
		t.Errorf("Join(0, 0, 1) = %#08x", got)
	}
}

// P1.1: Join answers the first sum, if there are no others behind, or a sum may not be.
func TestJoinOfWrong(t *testing.T) {
	sums := append(edges(), wrong()...)
	for _, a := range sums {
		for _, b := range sums {
			for _, n := range []int{0, -1, -65520, -65521, -65522, math.MinInt32, math.MinInt} {
				if got := Join(a, b, n); got != a {
					t.Errorf("Join(%#08x, %#08x, %d) = %#08x", a, b, n, got)
				}
			}
		}
		for _, b := range wrong() {
			for _, n := range []int{1, 5, math.MaxInt} {
				if got := Join(a, b, n); got != a {
					t.Errorf("Join(%#08x, %#08x, %d) = %#08x", a, b, n, got)
				}
				if got := Join(b, a, n); got != b {
					t.Errorf("Join(%#08x, %#08x, %d) = %#08x", b, a, n, got)
				}
			}
		}
	}
}

// P1.1 (R3, R5): what is handed in stays as it was, and the same is answered again.
func TestArgumentsStay(t *testing.T) {
	b := long(500)
	first, more := Sum(b), More(7, b)
	if !bytes.Equal(b, long(500)) {
		t.Error("the bytes were changed")
	}
	if Sum(b) != first || More(7, b) != more {
		t.Error("another answer the second time")
	}
	clear(b)
	if Sum(b) == first {
		t.Error("the bytes were kept")
	}
}

// P1.2: wherever a text is parted, More and Join tell its sum of its parts.
func TestParts(t *testing.T) {
	for _, whole := range texts() {
		want := Sum(whole)
		for at := range len(whole) + 1 {
			front, back := whole[:at], whole[at:]
			if got := More(Sum(front), back); got != want {
				t.Fatalf("More of %d and %d bytes = %#08x, not %#08x", at, len(back), got, want)
			}
			if got := Join(Sum(front), Sum(back), len(back)); got != want {
				t.Fatalf("Join of %d and %d bytes = %#08x, not %#08x", at, len(back), got, want)
			}
		}
	}
}

// P1.2: as TestParts, of any two texts behind each other.
func TestPartsOfPairs(t *testing.T) {
	for _, a := range texts() {
		for _, b := range texts() {
			want := Sum(append(bytes.Clone(a), b...))
			if got := More(Sum(a), b); got != want {
				t.Errorf("More of %d and %d bytes = %#08x, not %#08x", len(a), len(b), got, want)
			}
			if got := Join(Sum(a), Sum(b), len(b)); got != want {
				t.Errorf("Join of %d and %d bytes = %#08x, not %#08x", len(a), len(b), got, want)
			}
		}
	}
}

// P1.2: of texts so long that their parts, and their number of bytes, go round.
func TestPartsOfLongTexts(t *testing.T) {
	whole := long(150000)
	want := Sum(whole)
	for _, at := range []int{0, 1, 5552, 65520, 65521, 65522, 84479, 84480, 149999, 150000} {
		front, back := whole[:at], whole[at:]
		if got := More(Sum(front), back); got != want {
			t.Errorf("More at %d = %#08x, not %#08x", at, got, want)
		}
		if got := Join(Sum(front), Sum(back), len(back)); got != want {
			t.Errorf("Join at %d = %#08x, not %#08x", at, got, want)
		}
	}
}

// P1.2: byte by byte, and three parts in either order of joining, come to the same.
func TestPartsOfThree(t *testing.T) {
	a, b, c := long(40), []byte("in between"), bytes.Repeat([]byte{255}, 70)
	whole := bytes.Join([][]byte{a, b, c}, nil)
	step := Sum(nil)
	for i := range whole {
		step = More(step, whole[i:i+1])
	}
	left := Join(Join(Sum(a), Sum(b), len(b)), Sum(c), len(c))
	right := Join(Sum(a), Join(Sum(b), Sum(c), len(c)), len(b)+len(c))
	if want := Sum(whole); step != want || left != want || right != want {
		t.Errorf("%#08x, %#08x, %#08x, not %#08x", step, left, right, want)
	}
}

// P1.3: any byte that is another one makes another sum.
func TestSpoiltByte(t *testing.T) {
	for _, b := range append(texts(), long(70000)) {
		want := Sum(b)
		spoilt := bytes.Clone(b)
		for _, at := range places(len(b)) {
			for x := range 256 {
				if byte(x) == b[at] {
					continue
				}
				spoilt[at] = byte(x)
				if Sum(spoilt) == want {
					t.Fatalf("byte %d of %d: %d as %d has the same sum", at, len(b), b[at], x)
				}
			}
			spoilt[at] = b[at]
		}
	}
}

// P1.3: any two bytes side by side that are turned round make another sum, if they aren't the same.
func TestTurnedBytes(t *testing.T) {
	for _, b := range append(texts(), long(70000)) {
		want := Sum(b)
		turned := bytes.Clone(b)
		for _, at := range places(len(b) - 1) {
			turned[at], turned[at+1] = b[at+1], b[at]
			if b[at] != b[at+1] && Sum(turned) == want {
				t.Fatalf("bytes %d and %d of %d, turned round, have the same sum", at, at+1, len(b))
			}
			turned[at], turned[at+1] = b[at], b[at+1]
		}
	}
}

// P1.3: every two bytes that differ, whatever they are, turned round and spoilt.
func TestEveryTwoBytes(t *testing.T) {
	seen := make(map[uint32]string)
	for x := range 256 {
		one := Sum([]byte{byte(x)})
		if other, ok := seen[one]; ok {
			t.Fatalf("%d has the sum of %s", x, other)
		}
		seen[one] = strconv.Itoa(x)
		for y := range x {
			ahead := []byte{byte(x), byte(y), 'c'}
			turned := []byte{byte(y), byte(x), 'c'}
			if Sum(ahead) == Sum(turned) {
				t.Fatalf("%d and %d turned round have the same sum", x, y)
			}
		}
	}
}

// places are all of the numbers below n of a short text; of a long one a few, the edges among them.
func places(n int) []int {
	var l []int
	step := 1
	if n > 2000 {
		step = n / 3
	}
	for at := 0; at < n; at += step {
		l = append(l, at)
	}
	if step > 1 {
		l = append(l, n-1)
	}
	return l
}
