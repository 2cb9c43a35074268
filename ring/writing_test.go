package ring

import (
	"bytes"
	"encoding/binary"
	"testing"

	"flint/api"
)

// reckoned is an item's writing, by the chapter's words.
func reckoned(x api.Item) []byte {
	b := binary.BigEndian.AppendUint64(nil, x.Seq)
	b = binary.BigEndian.AppendUint64(b, x.Ver)
	b = append(b, byte(x.Index), byte(x.Count), byte(real(x.Next)))
	b = binary.BigEndian.AppendUint16(b, uint16(imag(x.Next)))
	if x.Gone {
		b = append(b, 1)
	} else {
		b = append(b, 0)
	}
	b = append(append(b, byte(len(x.Key))), x.Key...)
	return append(append(b, byte(len(x.Value))), x.Value...)
}

// P7.1: the writings of known items.
func TestPutKnown(t *testing.T) {
	for _, c := range []struct {
		x    api.Item
		want string
	}{
		{plain, "\x00\x00\x00\x00\x00\x00\x01\x02\x00\x00\x00\x00\x00\x00\x00\x03\x01\x03\x04\x02\x58\x00\x02ab\x01c"},
		{api.Item{Count: 1, Key: "a", Gone: true}, "\x00\x00\x00\x00\x00\x00\x00\x00\x00\x00\x00\x00\x00\x00\x00\x00\x00\x01\x00\x00\x00\x01\x01a\x00"},
	} {
		if got, err := Put(c.x); string(got) != c.want || err != api.OK {
			t.Errorf("Put(%+v) = %q, %v", c.x, got, err)
		}
	}
}

// P7.1: an item is written as the chapter says.
func TestPut(t *testing.T) {
	for _, x := range right() {
		got, err := Put(x)
		if !bytes.Equal(got, reckoned(x)) || err != api.OK {
			t.Errorf("Put(%+v) = %q, %v", x, got, err)
		}
		if len(got) != 24+len(x.Key)+len(x.Value) {
			t.Errorf("Put(%+v) has %d bytes", x, len(got))
		}
	}
}

// P7.1: what may not be isn't put.
func TestPutOfWrong(t *testing.T) {
	for _, x := range wrong() {
		if got, err := Put(x); len(got) != 0 || err != api.ErrArg {
			t.Errorf("Put(%+v) = %q, %v", x, got, err)
		}
	}
}

// P7.2: what is put is got as it was.
func TestThereAndBack(t *testing.T) {
	for _, x := range right() {
		b, _ := Put(x)
		if got, err := Get(b); got != x || err != api.OK {
			t.Errorf("%+v came back as %+v, %v", x, got, err)
		}
	}
}

// fails fails the test, if these bytes are read, or refused for something else.
func fails(t *testing.T, what string, b []byte, want api.Errno) {
	t.Helper()
	if got, err := Get(b); got != (api.Item{}) || err != want {
		t.Errorf("%s: Get(%q) = %+v, %v, not %v", what, b, got, err, want)
	}
}

// P7.1: each part of a writing is too short, none is enough.
func TestGetShort(t *testing.T) {
	fails(t, "nil", nil, api.ErrShort)
	for _, x := range right() {
		b := reckoned(x)
		for n := range b {
			fails(t, "a part", b[:n], api.ErrShort)
			fails(t, "a part, and the rest behind it in the memory", b[:n:len(b)], api.ErrShort)
		}
	}
}

// P7.1: bytes that are left, whatever they are.
func TestGetOfMore(t *testing.T) {
	for _, x := range right() {
		for _, more := range []string{"\x00", "\x01", "\xff", "ab", text(300)} {
			fails(t, "more bytes", append(reckoned(x), more...), api.ErrForm)
		}
	}
}

// Where the parts of a writing stand.
const (
	indexAt = 16
	countAt = 17
	nextAt  = 18
	goneAt  = 21
	keyAt   = 22
)

// P7.1: the byte for what is gone is 0 or 1.
func TestGetOfGone(t *testing.T) {
	for n := 2; n < 256; n++ {
		b := reckoned(plain)
		b[goneAt] = byte(n)
		fails(t, "neither 0 nor 1", b, api.ErrForm)
		fails(t, "and nothing behind it", b[:goneAt+1], api.ErrForm)
		fails(t, "and more behind it", append(b, 1, 2), api.ErrForm)
		b[keyAt], b[countAt] = 49, 0
		fails(t, "and what is wrong, too", b, api.ErrForm)
	}
}

// P7.1: a key and a value that are too long are so ahead of their being short.
func TestGetLong(t *testing.T) {
	for n := range 256 {
		b := append(reckoned(plain)[:keyAt], byte(n))
		want := api.ErrShort
		if n > 48 {
			want = api.ErrLong
		}
		fails(t, "a key's length", b, want)
		fails(t, "a key without its value", append(b, text(n)...), want)
		b = append(reckoned(plain)[:keyAt+3], byte(n))
		want = api.ErrShort
		if n > 64 {
			want = api.ErrLong
		}
		if n > 0 {
			fails(t, "a value's length", b, want)
			fails(t, "a value but one byte", append(b, text(n)[1:]...), want)
		}
		if n > 64 {
			fails(t, "a value", append(b, text(n)...), want)
			fails(t, "a value and more", append(b, text(n+5)...), want)
		}
	}
}

// P7.1: what is well written, and may not be.
func TestGetOfWrong(t *testing.T) {
	for count := range 256 {
		for index := range 256 {
			b := reckoned(plain)
			b[indexAt], b[countAt] = byte(index), byte(count)
			if index >= count {
				fails(t, "an index beyond the count", b, api.ErrArg)
			} else if _, err := Get(b); err != api.OK {
				t.Errorf("number %d of %d: %v", index, count, err)
			}
		}
	}
	for _, next := range []string{"\xff\xff\xff", "\xff\x00\x00", "\xff\xff\xfe", "\xff\x02\x58"} {
		b := reckoned(plain)
		copy(b[nextAt:], next)
		fails(t, "no place", b, api.ErrArg)
		fails(t, "no place, and more bytes", append(b, 0), api.ErrForm)
	}
	b := reckoned(plain)
	b[goneAt] = 1
	fails(t, "gone, with a value", b, api.ErrArg)
	fails(t, "no key", append(reckoned(plain)[:keyAt], 0, 1, 'c'), api.ErrArg)
	fails(t, "no key and no value", append(reckoned(plain)[:keyAt], 0, 0), api.ErrArg)
	fails(t, "no key, and more bytes", append(reckoned(plain)[:keyAt], 0, 0, 0), api.ErrForm)
	fails(t, "all 0", make([]byte, 24), api.ErrArg)
}

// P7.2: what is got of any bytes is put as it stood.
func TestBackAndThere(t *testing.T) {
	next := chance(1)
	seen := make(map[api.Errno]int)
	for range 60000 {
		b := reckoned(plain)
		b = append(append(b[:keyAt], byte(next(4))), text(next(4))...)
		b = append(append(b, byte(next(4))), text(next(4))...)
		for range next(4) {
			b[next(len(b))] = byte(next(256))
		}
		for range next(3) {
			b[next(len(b))] = byte(next(3))
		}
		x, err := Get(b)
		seen[err]++
		if err != api.OK {
			fails(t, "any bytes", b, err)
			continue
		}
		if !May(x) || !bytes.Equal(reckoned(x), b) {
			t.Fatalf("Get(%q) = %+v", b, x)
		}
		if again, err := Put(x); !bytes.Equal(again, b) || err != api.OK {
			t.Fatalf("%q came back as %q, %v", b, again, err)
		}
	}
	for _, err := range []api.Errno{api.OK, api.ErrShort, api.ErrForm, api.ErrLong, api.ErrArg} {
		if seen[err] < 100 {
			t.Errorf("only %d of %v", seen[err], err)
		}
	}
}

// P7.1 (R3, R5): what is handed in stays as it was and isn't kept, what is answered is new memory.
func TestBytesStay(t *testing.T) {
	b := reckoned(plain)
	x, _ := Get(b)
	if !bytes.Equal(b, reckoned(plain)) {
		t.Error("Get changed the bytes")
	}
	clear(b)
	if x != plain {
		t.Error("the item keeps the bytes")
	}
	first, _ := Put(plain)
	second, _ := Put(plain)
	clear(first)
	_ = append(first[:3], "abc"...)
	if !bytes.Equal(second, reckoned(plain)) {
		t.Error("two writings share memory")
	}
}

// chance answers numbers below n, the same ones in each run.
func chance(seed uint32) func(n int) int {
	x := seed
	return func(n int) int {
		x = x*1664525 + 1013904223
		return int(x>>8) % n
	}
}
