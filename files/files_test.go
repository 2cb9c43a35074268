package files

import (
	"bytes"
	"math"
	"slices"
	"strings"
	"testing"

	"flint/api"
	"flint/tree"
	"flint/view"
)

// four are a number's four bytes, the highest first.
func four(n uint32) string {
	return string([]byte{byte(n >> 24), byte(n >> 16), byte(n >> 8), byte(n)})
}

// inodeKey and blockKey are keys, by the words of chapter 9.
func inodeKey(ino uint32) string        { return "I" + four(ino) }
func blockKey(ino uint32, n int) string { return "D" + four(ino) + four(uint32(n))[2:] }

// written is an inode's writing, by the words of chapter 15.
func written(x api.Inode) string {
	return string([]byte{x.Kind}) + four(x.Links) + four(x.Size) + four(x.Parent)
}

// file is a file's inode, of two links, so that it shows if they are lost.
func file(size int) api.Inode {
	return api.Inode{Kind: api.File, Links: 2, Size: uint32(size)}
}

// over is a view of keys and values.
func over(l []api.Pair) *view.View {
	t := tree.New()
	for _, p := range l {
		t = t.Set(p.Key, p.Value)
	}
	return view.New(t)
}

// shown is all that a view shows, which isn't read for that.
func shown(v *view.View) []api.Pair {
	return v.Copy().Range("", "\xff\xff")
}

// anew is a view over all that another one shows, as behind a commit.
func anew(v *view.View) *view.View {
	return over(shown(v))
}

// filled is a view that writes so many keys more.
func filled(v *view.View, n int) *view.View {
	for i := range uint32(n) {
		v.Set("full"+four(i), "")
	}
	return v
}

// stand are the keys of a file of these bytes, by the chapter's words, rising.
func stand(ino uint32, b []byte) []api.Pair {
	var l []api.Pair
	for n, block := range slices.Collect(slices.Chunk(b, 64)) {
		if value := strings.TrimRight(string(block), "\x00"); value != "" {
			l = append(l, api.Pair{Key: blockKey(ino, n), Value: value})
		}
	}
	return append(l, api.Pair{Key: inodeKey(ino), Value: written(file(len(b)))})
}

// some are bytes, that begin with one, of which none is 0.
func some(from byte, n int) []byte {
	b := make([]byte, n)
	for i := range b {
		b[i] = (from+byte(i)-1)%251 + 1
	}
	return b
}

// joined are pieces of bytes, one behind the other.
func joined(l ...[]byte) []byte { return bytes.Join(l, nil) }

// zeros are so many bytes 0.
func zeros(n int) []byte { return make([]byte, n) }

// must fails the test, if an answer isn't OK.
func must(t *testing.T, answers ...api.Errno) {
	t.Helper()
	for i, err := range answers {
		if err != api.OK {
			t.Fatalf("answer %d: %v", i, err)
		}
	}
}

// has fails the test, if a view doesn't show just the keys of a file of these bytes.
func has(t *testing.T, v *view.View, ino uint32, want []byte) {
	t.Helper()
	if got, l := shown(v), stand(ino, want); !slices.Equal(got, l) {
		t.Errorf("shown: %v, not %v", got, l)
	}
	if b, err := All(v.Copy(), ino); !bytes.Equal(b, want) || err != api.OK {
		t.Errorf("all: %q, %v, not %q", b, err, want)
	}
}

// noFiles is a view in which the numbers that are answered are no files'.
func noFiles() (*view.View, []uint32) {
	dir := written(api.Inode{Kind: api.Dir, Links: 2, Parent: 1})
	l := []api.Pair{{Key: inodeKey(2), Value: dir}, {Key: inodeKey(3), Value: ""}, {Key: inodeKey(4), Value: "odd"}}
	for i, x := range []api.Inode{
		{Kind: api.File, Links: 0, Size: 1},
		{Kind: api.File, Links: 1001, Size: 1},
		{Kind: api.File, Links: 1, Size: 4097},
		{Kind: api.File, Links: 1, Size: math.MaxUint32},
		{Kind: api.File, Links: 1, Size: 1, Parent: 1},
		{Kind: 3, Links: 2},
		{Kind: 0},
	} {
		l = append(l, api.Pair{Key: inodeKey(uint32(5 + i)), Value: written(x)})
	}
	l = append(l, api.Pair{Key: inodeKey(12), Value: written(file(1)) + "\x00"}, api.Pair{Key: inodeKey(13), Value: written(file(1))[:12]})
	var inos []uint32
	for ino := range uint32(16) {
		l = append(l, api.Pair{Key: blockKey(ino, 0), Value: "a"})
		inos = append(inos, ino)
	}
	return over(l), append(inos, 255, 256, math.MaxUint32)
}

// P19.1: of what isn't there, or is no file, each call's first error is ErrHandle, whatever else is wrong; nothing is done.
func TestHandles(t *testing.T) {
	v, inos := noFiles()
	for _, ino := range inos {
		for _, n := range []int{0, 1, -1, 64, 1024, 1025, 4096, 4097, 5000, math.MaxInt, math.MinInt} {
			b, err := Read(v, ino, n, n)
			if b != nil || err != api.ErrHandle {
				t.Errorf("Read(%d, %d): %q, %v", ino, n, b, err)
			}
			if err := Write(v, ino, n, zeros(max(0, min(n, 2000)))); err != api.ErrHandle {
				t.Errorf("Write(%d, %d): %v", ino, n, err)
			}
			if err := Truncate(v, ino, n); err != api.ErrHandle {
				t.Errorf("Truncate(%d, %d): %v", ino, n, err)
			}
		}
		if b, err := All(v, ino); b != nil || err != api.ErrHandle {
			t.Errorf("All(%d): %q, %v", ino, b, err)
		}
	}
	if l := v.Writes(); len(l) != 0 {
		t.Errorf("written: %v", l)
	}
}

// P19.1 (R1): a nil view has no file.
func TestNil(t *testing.T) {
	for _, ino := range []uint32{0, 1, 2, math.MaxUint32} {
		b, read := Read(nil, ino, 0, 1)
		c, all := All(nil, ino)
		if b != nil || c != nil {
			t.Errorf("%q, %q", b, c)
		}
		for i, err := range []api.Errno{read, all, Write(nil, ino, 0, []byte("a")), Truncate(nil, ino, 0)} {
			if err != api.ErrHandle {
				t.Errorf("call %d of %d: %v", i, ino, err)
			}
		}
	}
}

// P19.1: the inode of any number may be a file; the root's, too, if its value says so.
func TestNumbers(t *testing.T) {
	for _, ino := range []uint32{0, 1, 2, 255, 256, 65535, 65536, math.MaxUint32 - 1, math.MaxUint32} {
		v := over(stand(ino, some(1, 70)))
		must(t, Write(v, ino, 68, []byte("abcd")))
		want := joined(some(1, 68), []byte("abcd"))
		has(t, v, ino, want)
		if b, err := Read(v, ino, 60, 10); !bytes.Equal(b, want[60:70]) || err != api.OK {
			t.Errorf("of %d is read: %q, %v", ino, b, err)
		}
		must(t, Truncate(v, ino, 3))
		has(t, v, ino, some(1, 3))
	}
}

// P19.1: what is wrong with what is asked of a file, each in its order; nothing is done.
func TestErrors(t *testing.T) {
	b := some(1, 70)
	v := over(stand(2, b))
	read := func(from, n int) api.Errno {
		b, err := Read(v, 2, from, n)
		if b != nil {
			t.Errorf("Read(%d, %d): %q", from, n, b)
		}
		return err
	}
	for i, c := range []struct{ got, want api.Errno }{
		{read(-1, 0), api.ErrInvalid},
		{read(0, -1), api.ErrInvalid},
		{read(-1, -1), api.ErrInvalid},
		{read(0, 1025), api.ErrInvalid},
		{read(70, 1025), api.ErrInvalid},
		{read(math.MinInt, 1), api.ErrInvalid},
		{read(1, math.MinInt), api.ErrInvalid},
		{read(math.MaxInt, math.MaxInt), api.ErrInvalid},
		{Write(v, 2, -1, nil), api.ErrInvalid},
		{Write(v, 2, -1, some(1, 1)), api.ErrInvalid},
		{Write(v, 2, -70, some(1, 70)), api.ErrInvalid},
		{Write(v, 2, math.MinInt, some(1, 1)), api.ErrInvalid},
		{Write(v, 2, 0, some(1, 1025)), api.ErrInvalid},
		{Write(v, 2, 4096, some(1, 1025)), api.ErrInvalid},
		{Write(v, 2, math.MaxInt, some(1, 5000)), api.ErrInvalid},
		{Write(v, 2, 4096, some(1, 1)), api.ErrBig},
		{Write(v, 2, 4095, some(1, 2)), api.ErrBig},
		{Write(v, 2, 3073, some(1, 1024)), api.ErrBig},
		{Write(v, 2, 4097, nil), api.ErrBig},
		{Write(v, 2, math.MaxInt, some(1, 1)), api.ErrBig},
		{Write(v, 2, math.MaxInt, some(1, 1024)), api.ErrBig},
		{Write(v, 2, math.MaxInt, nil), api.ErrBig},
		{Truncate(v, 2, -1), api.ErrInvalid},
		{Truncate(v, 2, math.MinInt), api.ErrInvalid},
		{Truncate(v, 2, 4097), api.ErrBig},
		{Truncate(v, 2, 1<<32), api.ErrBig},
		{Truncate(v, 2, 1<<32+70), api.ErrBig},
		{Truncate(v, 2, math.MaxInt), api.ErrBig},
	} {
		if c.got != c.want {
			t.Errorf("call %d: %v, not %v", i, c.got, c.want)
		}
	}
	if l := v.Writes(); len(l) != 0 {
		t.Errorf("written: %v", l)
	}
	has(t, v, 2, b)
}

// P19.1: a write of no byte does nothing, wherever it is; it is OK with no room, too.
func TestNoByte(t *testing.T) {
	v := filled(over(stand(2, some(1, 10))), 48)
	was := v.Writes()
	for _, from := range []int{0, 5, 10, 11, 64, 4095, 4096} {
		must(t, Write(v, 2, from, nil), Write(v, 2, from, []byte{}))
	}
	if !slices.Equal(v.Writes(), was) {
		t.Error("something is written")
	}
}

// P19.1: what is read of a file, from each place on: at most n bytes, up to the Size.
func TestRead(t *testing.T) {
	b := joined(some(1, 100), zeros(160), some(7, 61), zeros(9))
	v := over(stand(2, b))
	for from := range len(b) + 70 {
		for _, n := range []int{0, 1, 2, 3, 63, 64, 65, 127, 128, 129, 329, 330, 331, 1023, 1024} {
			want := b[min(from, len(b)):min(from+n, len(b))]
			if got, err := Read(v, 2, from, n); !bytes.Equal(got, want) || err != api.OK {
				t.Fatalf("Read(%d, %d): %q, %v, not %q", from, n, got, err, want)
			}
		}
	}
	for _, from := range []int{330, 4095, 4096, 4097, 1 << 20, 1<<32 + 1, math.MaxInt - 1, math.MaxInt} {
		for _, n := range []int{0, 1, 1024} {
			if got, err := Read(v, 2, from, n); len(got) != 0 || err != api.OK {
				t.Errorf("Read(%d, %d): %q, %v", from, n, got, err)
			}
		}
	}
	has(t, v, 2, b)
}

// P19.1: a file of all bytes that there may be is read to its end; all of it is told at once.
func TestReadGreat(t *testing.T) {
	b := some(3, 4096)
	v := over(stand(2, b))
	for from := 0; from < 4096; from += 31 {
		want := b[from:min(from+1024, 4096)]
		if got, err := Read(v, 2, from, 1024); !bytes.Equal(got, want) || err != api.OK {
			t.Fatalf("Read(%d): %v", from, err)
		}
	}
	has(t, v, 2, b)
}

// P19.1: each call reads the inode's key, and no other one; blocks' are looked at.
func TestReads(t *testing.T) {
	for i, call := range []func(v *view.View) api.Errno{
		func(v *view.View) api.Errno { _, err := Read(v, 2, 0, 200); return err },
		func(v *view.View) api.Errno { _, err := Read(v, 2, 5000, 1); return err },
		func(v *view.View) api.Errno { _, err := All(v, 2); return err },
		func(v *view.View) api.Errno { return Write(v, 2, 60, some(9, 70)) },
		func(v *view.View) api.Errno { return Truncate(v, 2, 10) },
		func(v *view.View) api.Errno { return Truncate(v, 2, 4000) },
	} {
		v := over(stand(2, some(1, 200)))
		must(t, call(v))
		if l := v.Reads(); !slices.Equal(l, []string{inodeKey(2)}) || len(v.Ranges()) != 0 {
			t.Errorf("call %d has read %q, %q", i, l, v.Ranges())
		}
	}
}

// P19.1 (R3): what is handed in isn't changed, nor kept; what is answered is new.
func TestMemory(t *testing.T) {
	v := over(stand(2, nil))
	b := some(1, 200)
	must(t, Write(v, 2, 30, b))
	want := joined(zeros(30), some(1, 200))
	if !bytes.Equal(b, some(1, 200)) {
		t.Error("what is handed in is changed")
	}
	clear(b)
	has(t, v, 2, want)
	got, _ := Read(v, 2, 0, 230)
	all, _ := All(v, 2)
	clear(got)
	has(t, v, 2, want)
	if !bytes.Equal(all, want) {
		t.Error("two answers share bytes")
	}
	clear(all)
	has(t, v, 2, want)
}
