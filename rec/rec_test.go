package rec

import (
	"bytes"
	"encoding/binary"
	"hash/adler32"
	"math"
	"testing"

	"flint/api"
)

// The flags of a record in its states, as the chapter's words reckon them.
const (
	flagsWritten  = 127
	flagsSettled  = 63
	flagsObsolete = 95
	flagsBoth     = 31
)

// long are n bytes of all kinds, those that are blank or an end among them.
func long(n int) []byte {
	b := make([]byte, n)
	for i := range b {
		b[i] = byte(i*i/7 + i)
	}
	return b
}

// records are records of many lengths, at the edges and between them.
func records() [][]byte {
	l := [][]byte{nil, {}, {0}, {255}, {127}, []byte("a"), []byte("abc"), bytes.Repeat([]byte{255}, 30), make([]byte, 30)}
	for _, n := range []int{2, 7, 8, 9, 136, 254, 255, 256, 257, 511, 512, 4096, 65279, 65280, 65534, 65535} {
		l = append(l, long(n))
	}
	return append(l, make([]byte, 65535), bytes.Repeat([]byte{255}, 65535))
}

// short are those that fit into a small part of a sector.
func short() [][]byte {
	var l [][]byte
	for _, r := range records() {
		if len(r) <= 300 {
			l = append(l, r)
		}
	}
	return l
}

// reckoned is a record's frame with these flags, by the chapter's words and with others' sum.
func reckoned(flags byte, record []byte) []byte {
	summed := append(binary.BigEndian.AppendUint16(nil, uint16(len(record))), record...)
	frame := append([]byte{flags}, summed[:2]...)
	frame = binary.BigEndian.AppendUint32(frame, adler32.Checksum(summed))
	return append(append(frame, record...), 0)
}

// frame is a record's, as Put tells it.
func frame(t *testing.T, record []byte) []byte {
	t.Helper()
	f, err := Put(record)
	if err != api.OK {
		t.Fatalf("Put of %d bytes: %v", len(record), err)
	}
	return f
}

// stands fails the test, if this record isn't what stands at a place, with its end behind it.
func stands(t *testing.T, what string, b []byte, at, state int, record []byte) {
	t.Helper()
	got, r, behind := Class(b, at)
	if got != state || !bytes.Equal(r, record) || behind != at+len(record)+8 {
		t.Errorf("%s: at %d of %d bytes stands %d, a record of %d bytes, up to %d", what, at, len(b), got, len(r), behind)
	}
}

// none fails the test, if something else stands at a place than Blank, or Torn; neither has a record or an end.
func none(t *testing.T, what string, b []byte, at, state int) {
	t.Helper()
	if got, r, behind := Class(b, at); got != state || len(r) != 0 || behind != 0 {
		t.Errorf("%s: at %d of %d bytes stands %d, not %d, a record of %d bytes, up to %d", what, at, len(b), got, state, len(r), behind)
	}
}

// P6.1: the frames of known records, among them the chapter's example.
func TestPutKnown(t *testing.T) {
	for _, c := range []struct{ record, want string }{
		{"", "\x7f\x00\x00\x00\x02\x00\x01\x00"},
		{"a", "\x7f\x00\x01\x00\x66\x00\x63a\x00"},
		{"abc", "\x7f\x00\x03\x02\x5b\x01\x2aabc\x00"},
	} {
		if got := frame(t, []byte(c.record)); string(got) != c.want {
			t.Errorf("Put(%q) = %q, not %q", c.record, got, c.want)
		}
	}
}

// P6.1: a frame is the flags, the length, the sum of both that and the record, the record, and its end; as long as Size says.
func TestPut(t *testing.T) {
	for _, r := range records() {
		got := frame(t, r)
		if !bytes.Equal(got, reckoned(flagsWritten, r)) {
			t.Errorf("Put of %d bytes isn't its frame", len(r))
		}
		if len(got) != Size(len(r)) {
			t.Errorf("Put of %d bytes has %d, not %d", len(r), len(got), Size(len(r)))
		}
	}
}

// P6.1: ErrLong of more than 65535 bytes, and nothing beside it.
func TestPutOfTooLong(t *testing.T) {
	for _, n := range []int{65536, 65537, 65536 + 3, 131072, 1 << 20} {
		if got, err := Put(make([]byte, n)); len(got) != 0 || err != api.ErrLong {
			t.Errorf("Put of %d bytes: %d bytes, %v", n, len(got), err)
		}
	}
}

// P6.1: how many bytes a frame has; 0 of what no record has.
func TestSize(t *testing.T) {
	for n := range 65536 {
		if got := Size(n); got != n+8 {
			t.Fatalf("Size(%d) = %d", n, got)
		}
	}
	for _, n := range []int{-1, -8, -9, math.MinInt, 65536, 65537, 131071, 1 << 32, math.MaxInt - 8, math.MaxInt} {
		if got := Size(n); got != 0 {
			t.Errorf("Size(%d) = %d", n, got)
		}
	}
}

// P6.1: a flag's byte has its own bit 0 alone; of any other state none is.
func TestFlag(t *testing.T) {
	for state := -300; state <= 300; state++ {
		want := byte(255)
		switch state {
		case api.Settled:
			want = 191
		case api.Obsolete:
			want = 223
		}
		if got := Flag(state); got != want {
			t.Errorf("Flag(%d) = %d, not %d", state, got, want)
		}
	}
	for _, state := range []int{math.MinInt, math.MaxInt, 1<<32 + api.Settled, 1<<32 + api.Obsolete} {
		if got := Flag(state); got != 255 {
			t.Errorf("Flag(%d) = %d", state, got)
		}
	}
}

// P6.1: nothing stands where all bytes from there on are 255, and at the end.
func TestBlank(t *testing.T) {
	for _, n := range []int{0, 1, 7, 8, 9, 300, 70000} {
		b := bytes.Repeat([]byte{255}, n)
		for _, at := range []int{0, 1, n / 2, n - 1, n} {
			if at >= 0 && at <= n {
				none(t, "blank bytes", b, at, api.Blank)
			}
		}
	}
	none(t, "nil", nil, 0, api.Blank)
	none(t, "what stands ahead", append(make([]byte, 20), 255, 255), 20, api.Blank)
	full := frame(t, []byte("abc"))
	none(t, "the end of a full one", full, len(full), api.Blank)
}

// P6.1: among blank bytes one that isn't, wherever it stands, makes what is ahead of it torn, and nothing else.
func TestNotBlank(t *testing.T) {
	b := bytes.Repeat([]byte{255}, 60)
	for i := range b {
		for _, x := range []byte{0, 127, 191, 223, 254} {
			b[i] = x
			for at := range len(b) + 1 {
				want := api.Torn
				if at > i {
					want = api.Blank
				}
				none(t, "a byte that isn't blank", b, at, want)
			}
		}
		b[i] = 255
	}
}

// P6.1: Torn at a place that isn't one of the bytes', nor their end.
func TestClassOfWrongPlaces(t *testing.T) {
	for _, b := range [][]byte{nil, {}, {255}, bytes.Repeat([]byte{255}, 40), make([]byte, 40), frame(t, []byte("abc"))} {
		for _, at := range []int{-1, -2, -11, math.MinInt, len(b) + 1, len(b) + 2, 70000, math.MaxInt - 1, math.MaxInt} {
			none(t, "no place", b, at, api.Torn)
		}
	}
}

// P6.1: of all flags there are four are a record's, and tell what it is.
func TestFlags(t *testing.T) {
	for flags := range 256 {
		b := append(reckoned(byte(flags), []byte("abc")), 255)
		switch flags {
		case flagsWritten:
			stands(t, "written", b, 0, api.Written, []byte("abc"))
		case flagsSettled:
			stands(t, "settled", b, 0, api.Settled, []byte("abc"))
		case flagsObsolete, flagsBoth:
			stands(t, "obsolete", b, 0, api.Obsolete, []byte("abc"))
		default:
			none(t, "no record's flags", b, 0, api.Torn)
		}
	}
}

// P6.1: a frame that isn't all there is torn, up to its last byte.
func TestShortened(t *testing.T) {
	for _, r := range short() {
		f := frame(t, r)
		for n := 1; n < len(f); n++ {
			none(t, "a shortened frame", f[:n], 0, api.Torn)
			none(t, "one behind others", append(make([]byte, 9), f[:n]...), 9, api.Torn)
		}
	}
}

// P6.1: a frame with one byte that is another one is torn, but for the flags.
func TestSpoiltByte(t *testing.T) {
	for _, r := range short() {
		b := frame(t, r)
		for i := 1; i < len(b); i++ {
			for range 255 {
				b[i]++
				none(t, "a spoilt byte", b, 0, api.Torn)
			}
			b[i]++
		}
		stands(t, "all bytes as they were", b, 0, api.Written, r)
	}
}

// P6.1: the sum is that of the length, too, and no byte's place in it is another one's.
func TestOtherSums(t *testing.T) {
	for _, c := range []struct {
		what   string
		summed string
	}{
		{"the record alone", "abc"},
		{"the flags, too", "\x7f\x00\x03abc"},
		{"the end, too", "\x00\x03abc\x00"},
		{"the record ahead of the length", "abc\x00\x03"},
		{"the length's lowest byte first", "\x03\x00abc"},
		{"nothing", ""},
	} {
		b := reckoned(flagsWritten, []byte("abc"))
		binary.BigEndian.PutUint32(b[3:], adler32.Checksum([]byte(c.summed)))
		none(t, "the sum of "+c.what, b, 0, api.Torn)
	}
	b := reckoned(flagsWritten, []byte("abc"))
	binary.LittleEndian.PutUint32(b[3:], adler32.Checksum([]byte("\x00\x03abc")))
	none(t, "the sum's lowest byte first", b, 0, api.Torn)
	b = reckoned(flagsWritten, []byte("abc"))
	b[1], b[2] = b[2], b[1]
	none(t, "the length's lowest byte first", append(b, make([]byte, 1000)...), 0, api.Torn)
}

// P6.1: the length says where the record ends, whatever stands behind; one byte more or less isn't whole.
func TestOtherLengths(t *testing.T) {
	for n := range 300 {
		b := append(reckoned(flagsWritten, make([]byte, n)), make([]byte, 5)...)
		stands(t, "zeros behind zeros", b, 0, api.Written, make([]byte, n))
		for _, other := range []int{n + 1, n + 2, n - 1} {
			if other >= 0 {
				binary.BigEndian.PutUint16(b[1:], uint16(other))
				none(t, "another length", b, 0, api.Torn)
			}
		}
	}
}

// P6.1: what stands in the memory behind the bytes isn't among them.
func TestClassStaysWithin(t *testing.T) {
	f := frame(t, []byte("abc"))
	for n := 1; n < len(f); n++ {
		none(t, "a frame that goes on behind the bytes", f[:n:len(f)], 0, api.Torn)
	}
	b := append(bytes.Repeat([]byte{255}, 8), f...)
	none(t, "blank up to the end of the bytes", b[:8], 3, api.Blank)
}

// P6.1: any bytes, also such that look much like frames, are what the chapter's words say.
func TestClassOfAnyBytes(t *testing.T) {
	few := []byte{255, 0, 127, 63, 95, 31, 1, 2, 3, 254, 191}
	seen := make(map[int]int)
	x := uint32(1)
	next := func(n int) int {
		x = x*1664525 + 1013904223
		return int(x>>8) % n
	}
	for range 3000 {
		b := bytes.Repeat([]byte{255}, next(60))
		for range next(8) {
			f := reckoned(few[next(len(few))], long(next(20)))
			at := next(len(b) + 1)
			copy(b[at:], f)
			if next(3) == 0 && at < len(b) {
				b[at+next(len(b)-at)] = few[next(len(few))]
			}
		}
		for at := -1; at <= len(b)+1; at++ {
			state, record := told(b, at)
			seen[state]++
			if state == api.Blank || state == api.Torn {
				none(t, "any bytes", b, at, state)
			} else {
				stands(t, "any bytes", b, at, state, record)
			}
		}
	}
	for _, state := range []int{api.Blank, api.Torn, api.Written, api.Settled, api.Obsolete} {
		if seen[state] < 100 {
			t.Errorf("only %d of %d", seen[state], state)
		}
	}
}

// told is what stands at a place, by holding all frames there could be against it.
func told(b []byte, at int) (int, []byte) {
	if at < 0 || at > len(b) {
		return api.Torn, nil
	}
	b = b[at:]
	if bytes.Equal(b, bytes.Repeat([]byte{255}, len(b))) {
		return api.Blank, nil
	}
	for n := range max(len(b)-7, 0) {
		record := b[7 : 7+n]
		for flags, state := range map[byte]int{flagsWritten: api.Written, flagsSettled: api.Settled, flagsObsolete: api.Obsolete, flagsBoth: api.Obsolete} {
			if bytes.HasPrefix(b, reckoned(flags, record)) {
				return state, record
			}
		}
	}
	return api.Torn, nil
}

// P6.1 (R3, R5): what is handed in stays as it was and isn't kept, what is answered is new memory, and the same is answered again.
func TestArgumentsStay(t *testing.T) {
	record := long(40)
	f := frame(t, record)
	if !bytes.Equal(record, long(40)) {
		t.Error("Put changed the record")
	}
	b := bytes.Clone(f)
	_, got, _ := Class(b, 0)
	if !bytes.Equal(b, f) {
		t.Error("Class changed the bytes")
	}
	clear(record)
	clear(b)
	if !bytes.Equal(f, reckoned(flagsWritten, long(40))) || !bytes.Equal(got, long(40)) {
		t.Error("an answer shares memory with what was handed in")
	}
	clear(got)
	stands(t, "again", f, 0, api.Written, long(40))
	if again := frame(t, long(40)); !bytes.Equal(again, f) {
		t.Error("another frame the second time")
	}
}

// P6.1 (R3): what is put behind an answer stands in nothing else.
func TestAnswersEndAlone(t *testing.T) {
	b := append(frame(t, []byte("abc")), frame(t, []byte("de"))...)
	_, first, behind := Class(b, 0)
	_ = append(first, "xyz and more of it"...)
	stands(t, "the first", b, 0, api.Written, []byte("abc"))
	stands(t, "the one behind", b, behind, api.Written, []byte("de"))
}

// P6.2: what is put is found, written, whatever stands ahead of it and behind it.
func TestThereAndBack(t *testing.T) {
	for _, r := range records() {
		for _, ahead := range [][]byte{nil, {0}, {255}, long(13)} {
			for _, behind := range [][]byte{nil, {0}, {255}, {127, 0}, long(40), make([]byte, 300)} {
				b := bytes.Join([][]byte{ahead, frame(t, r), behind}, nil)
				stands(t, "what was put", b, len(ahead), api.Written, r)
			}
		}
	}
}

// P6.2: with flags programmed over it is what these say, in either order, and again.
func TestFlagsProgrammedOver(t *testing.T) {
	for _, r := range records() {
		for _, c := range []struct {
			states []int
			want   int
		}{
			{[]int{api.Settled}, api.Settled},
			{[]int{api.Settled, api.Settled}, api.Settled},
			{[]int{api.Obsolete}, api.Obsolete},
			{[]int{api.Obsolete, api.Obsolete}, api.Obsolete},
			{[]int{api.Settled, api.Obsolete}, api.Obsolete},
			{[]int{api.Obsolete, api.Settled}, api.Obsolete},
			{[]int{api.Written, api.Torn, api.Blank, -1}, api.Written},
			{[]int{api.Settled, api.Written}, api.Settled},
		} {
			b := frame(t, r)
			for _, state := range c.states {
				b[0] &= Flag(state)
			}
			stands(t, "with flags", b, 0, c.want, r)
		}
	}
}

// P6.2: what is found stands there as it is put, but for the flags.
func TestBackAndThere(t *testing.T) {
	for _, r := range records() {
		for _, flags := range []byte{flagsWritten, flagsSettled, flagsObsolete, flagsBoth} {
			b := append(reckoned(flags, r), 255, 0)
			_, found, behind := Class(b, 0)
			if behind == 0 || !bytes.Equal(frame(t, found)[1:], b[1:behind]) {
				t.Errorf("a record of %d bytes with the flags %d isn't put as it stood", len(r), flags)
			}
		}
	}
}

// P6.2: records one behind the other are found, each one at the end of that ahead of it, up to where nothing stands.
func TestOneBehindTheOther(t *testing.T) {
	var b []byte
	for _, r := range records() {
		b = append(b, frame(t, r)...)
	}
	b = append(b, 255, 255, 255)
	at := 0
	for _, r := range records() {
		stands(t, "one of several", b, at, api.Written, r)
		_, _, at = Class(b, at)
	}
	none(t, "behind all", b, at, api.Blank)
}
