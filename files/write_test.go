package files

import (
	"bytes"
	"slices"
	"testing"

	"flint/api"
	"flint/view"
)

// laid are bytes with others over them from one on; what is between is 0.
func laid(b []byte, from int, more []byte) []byte {
	b = joined(b, zeros(max(0, from+len(more)-len(b))))
	copy(b[from:], more)
	return b
}

// sized are the first bytes; what is behind them is 0.
func sized(b []byte, size int) []byte {
	return joined(b, zeros(max(0, size-len(b))))[:size]
}

// P19.1, P19.2: the chapter's example.
func TestExample(t *testing.T) {
	v := over(stand(2, nil))
	must(t, Write(v, 2, 3, []byte("ab")))
	has(t, v, 2, []byte("\x00\x00\x00ab"))
}

// P19.1, P19.2: bytes stand where they were written, in files of all kinds; all others stay; the keys are as said.
func TestWrite(t *testing.T) {
	for _, b := range [][]byte{nil, some(1, 1), some(1, 63), some(1, 64), some(1, 65), zeros(130), some(1, 200), joined(some(1, 70), zeros(100), some(2, 100))} {
		for _, from := range []int{0, 1, 62, 63, 64, 65, 127, 128, 129, 200, 270, 1000, 3072} {
			for _, n := range []int{1, 2, 63, 64, 65, 66, 128, 130, 1023, 1024} {
				for _, more := range [][]byte{some(100, n), zeros(n), joined(zeros(n-1), some(5, 1))} {
					v := over(stand(2, b))
					must(t, Write(v, 2, from, more))
					has(t, v, 2, laid(b, from, more))
				}
			}
		}
	}
}

// P19.1: a write may end at MaxFile, and no further.
func TestWriteEnd(t *testing.T) {
	for _, n := range []int{1, 2, 64, 1000, 1024} {
		v := over(stand(2, some(1, 5)))
		must(t, Write(v, 2, 4096-n, some(9, n)))
		has(t, v, 2, laid(some(1, 5), 4096-n, some(9, n)))
		if err := Write(v, 2, 4097-n, some(9, n)); err != api.ErrBig {
			t.Errorf("%d bytes: %v", n, err)
		}
	}
}

// P19.1: the inode is written, and the blocks that bytes come to, and nothing else; a block without a byte goes.
func TestWritten(t *testing.T) {
	b := some(1, 200)
	for i, c := range []struct {
		call func(v *view.View) api.Errno
		want []api.Pair
	}{
		{func(v *view.View) api.Errno { return Write(v, 2, 10, []byte("ab")) }, []api.Pair{
			{Key: blockKey(2, 0), Value: string(laid(b[:64], 10, []byte("ab")))}, {Key: inodeKey(2), Value: written(file(200))}}},
		{func(v *view.View) api.Errno { return Write(v, 2, 126, []byte("abcd")) }, []api.Pair{
			{Key: blockKey(2, 1), Value: string(b[64:126]) + "ab"}, {Key: blockKey(2, 2), Value: "cd" + string(b[130:192])}, {Key: inodeKey(2), Value: written(file(200))}}},
		{func(v *view.View) api.Errno { return Write(v, 2, 64, zeros(64)) }, []api.Pair{
			{Key: blockKey(2, 1), Gone: true}, {Key: inodeKey(2), Value: written(file(200))}}},
		{func(v *view.View) api.Errno { return Write(v, 2, 190, zeros(20)) }, []api.Pair{
			{Key: blockKey(2, 2), Value: string(b[128:190])}, {Key: blockKey(2, 3), Gone: true}, {Key: inodeKey(2), Value: written(file(210))}}},
		{func(v *view.View) api.Errno { return Write(v, 2, 640, zeros(64)) }, []api.Pair{
			{Key: inodeKey(2), Value: written(file(704))}}},
		{func(v *view.View) api.Errno { return Truncate(v, 2, 200) }, []api.Pair{
			{Key: inodeKey(2), Value: written(file(200))}}},
		{func(v *view.View) api.Errno { return Truncate(v, 2, 4096) }, []api.Pair{
			{Key: inodeKey(2), Value: written(file(4096))}}},
		{func(v *view.View) api.Errno { return Truncate(v, 2, 192) }, []api.Pair{
			{Key: blockKey(2, 3), Gone: true}, {Key: inodeKey(2), Value: written(file(192))}}},
		{func(v *view.View) api.Errno { return Truncate(v, 2, 100) }, []api.Pair{
			{Key: blockKey(2, 1), Value: string(b[64:100])}, {Key: blockKey(2, 2), Gone: true}, {Key: blockKey(2, 3), Gone: true}, {Key: inodeKey(2), Value: written(file(100))}}},
	} {
		v := over(stand(2, b))
		must(t, c.call(v))
		if l := v.Writes(); !slices.Equal(l, c.want) {
			t.Errorf("call %d has written %v, not %v", i, l, c.want)
		}
	}
}

// P19.1, P19.2: behind each Size the bytes are gone, also when the file grows again; those ahead of it stay.
func TestTruncate(t *testing.T) {
	for _, b := range [][]byte{some(1, 200), joined(some(1, 20), zeros(150), some(1, 30)), zeros(200), some(1, 192), nil} {
		for size := range 330 {
			v := over(stand(2, b))
			must(t, Truncate(v, 2, size))
			has(t, v, 2, sized(b, size))
			must(t, Truncate(v, 2, 300))
			has(t, v, 2, sized(sized(b, size), 300))
			v = anew(v)
			must(t, Truncate(v, 2, 4096))
			has(t, v, 2, sized(sized(sized(b, size), 300), 4096))
			must(t, Truncate(v, 2, 0))
			has(t, v, 2, nil)
		}
	}
}

// P19.1: who truncates a file that has all blocks; as many go as there is room for, beside the one that is shortened, and the inode.
func TestTruncateGreat(t *testing.T) {
	b := some(1, 4096)
	for size := range 4097 {
		v := over(stand(2, b))
		keys := 64 - (size+63)/64 + 1
		if size%64 > 0 {
			keys++
		}
		if err := Truncate(v, 2, size); (err == api.OK) != (keys <= 48) || err != api.OK && err != api.ErrTxFull {
			t.Fatalf("to %d: %v", size, err)
		}
		if keys <= 48 {
			has(t, v, 2, b[:size])
		}
	}
}

// P19.1: each call needs just the keys that it writes; without room for one it is ErrTxFull.
func TestRoom(t *testing.T) {
	for name, need := range map[string]struct {
		call func(v *view.View) api.Errno
		keys int
	}{
		"a byte":                    {func(v *view.View) api.Errno { return Write(v, 2, 3, []byte("a")) }, 2},
		"a byte behind it":          {func(v *view.View) api.Errno { return Write(v, 2, 3000, []byte("a")) }, 2},
		"two blocks":                {func(v *view.View) api.Errno { return Write(v, 2, 63, []byte("ab")) }, 3},
		"as many as there may be":   {func(v *view.View) api.Errno { return Write(v, 2, 0, some(9, 1024)) }, 17},
		"as many, and not straight": {func(v *view.View) api.Errno { return Write(v, 2, 1, some(9, 1024)) }, 18},
		"no bytes in place of some": {func(v *view.View) api.Errno { return Write(v, 2, 64, zeros(64)) }, 2},
		"the same Size":             {func(v *view.View) api.Errno { return Truncate(v, 2, 200) }, 1},
		"a greater Size":            {func(v *view.View) api.Errno { return Truncate(v, 2, 250) }, 1},
		"the greatest Size":         {func(v *view.View) api.Errno { return Truncate(v, 2, 4096) }, 1},
		"a shorter block":           {func(v *view.View) api.Errno { return Truncate(v, 2, 193) }, 2},
		"a block less":              {func(v *view.View) api.Errno { return Truncate(v, 2, 192) }, 2},
		"a block less, one shorter": {func(v *view.View) api.Errno { return Truncate(v, 2, 191) }, 3},
		"no Size":                   {func(v *view.View) api.Errno { return Truncate(v, 2, 0) }, 5},
	} {
		for n := range 49 {
			v := filled(over(stand(2, some(1, 200))), n)
			want := api.OK
			if n+need.keys > 48 {
				want = api.ErrTxFull
			}
			if err := need.call(v); err != want {
				t.Errorf("%s, with %d keys written: %v, not %v", name, n, err, want)
			}
			if got := len(v.Writes()) - n; want == api.OK && got != need.keys {
				t.Errorf("%s writes %d keys, not %d", name, got, need.keys)
			}
		}
	}
}

// P19.1: errors are told ahead of room; what is read needs none.
func TestErrorsWithoutRoom(t *testing.T) {
	b := some(1, 200)
	v := filled(over(stand(2, b)), 48)
	was := v.Writes()
	for i, c := range []struct{ got, want api.Errno }{
		{Write(v, 3, 0, some(1, 1)), api.ErrHandle},
		{Write(v, 2, -1, some(1, 1)), api.ErrInvalid},
		{Write(v, 2, 0, some(1, 1025)), api.ErrInvalid},
		{Write(v, 2, 4096, some(1, 1)), api.ErrBig},
		{Truncate(v, 3, 0), api.ErrHandle},
		{Truncate(v, 2, -1), api.ErrInvalid},
		{Truncate(v, 2, 4097), api.ErrBig},
		{Write(v, 2, 0, some(1, 1)), api.ErrTxFull},
		{Write(v, 2, 300, some(1, 1)), api.ErrTxFull},
		{Truncate(v, 2, 200), api.ErrTxFull},
		{Truncate(v, 2, 10), api.ErrTxFull},
		{Truncate(v, 2, 300), api.ErrTxFull},
	} {
		if c.got != c.want {
			t.Errorf("call %d: %v, not %v", i, c.got, c.want)
		}
	}
	if !slices.Equal(v.Writes(), was) {
		t.Error("something is done")
	}
	if got, err := Read(v, 2, 10, 100); !bytes.Equal(got, b[10:110]) || err != api.OK {
		t.Errorf("%q, %v", got, err)
	}
}

// P19.1: keys that are written already need no room; blocks of the same view make some when they go.
func TestRoomOfOwn(t *testing.T) {
	v := over(stand(2, some(1, 64)))
	must(t, Write(v, 2, 0, some(9, 200)))
	filled(v, 48-len(v.Writes()))
	must(t, Write(v, 2, 50, some(5, 150)), Truncate(v, 2, 190), Truncate(v, 2, 4000), Write(v, 2, 250, []byte("a")))
	if err := Write(v, 2, 256, []byte("a")); err != api.ErrTxFull {
		t.Error(err)
	}
	must(t, Truncate(v, 2, 64))
	if got := len(v.Writes()); got != 45 {
		t.Errorf("%d keys are written", got)
	}
	must(t, Write(v, 2, 64, some(1, 192)))
	if err := Write(v, 2, 256, []byte("a")); err != api.ErrTxFull {
		t.Error(err)
	}
}

// P19.1: a block of the same view goes first, so that there is room for one that is shortened.
func TestRoomOfBlocksThatGo(t *testing.T) {
	v := over(stand(2, some(1, 64)))
	must(t, Write(v, 2, 64, []byte("a")))
	filled(v, 46)
	must(t, Truncate(v, 2, 63))
	if got := len(v.Writes()); got != 48 {
		t.Errorf("%d keys are written", got)
	}
}

// P19.1: without room for all of it a write answers ErrTxFull, whatever is done; what it doesn't touch stays.
func TestHalf(t *testing.T) {
	b := some(1, 400)
	for n := 40; n < 48; n++ {
		v := filled(over(stand(2, b)), n)
		if err := Write(v, 2, 70, some(9, 320)); n+7 > 48 != (err == api.ErrTxFull) || err != api.OK && err != api.ErrTxFull {
			t.Errorf("with %d keys: %v", n, err)
		}
		all, err := All(v, 2)
		if !bytes.Equal(all[:70], b[:70]) || !bytes.Equal(all[390:], b[390:]) || err != api.OK {
			t.Errorf("with %d keys: %q, %v", n, all, err)
		}
	}
}
