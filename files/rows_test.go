package files

import (
	"bytes"
	"math"
	"slices"
	"strings"
	"testing"

	"flint/api"
	"flint/dirs"
	"flint/tree"
	"flint/view"
	"flint/walk"
)

// chance answers numbers that look like chance, the same ones each time.
func chance(x uint32) func(n int) int {
	return func(n int) int {
		x = x*1664525 + 1013904223
		return int(x>>8) % n
	}
}

// model is files as bytes, which know nothing of blocks; and what is written of them, by their keys.
type model struct {
	files   map[uint32][]byte
	based   map[string]bool
	written map[string]bool
}

// note notes that a key is written, or cut; false, if that is one too many.
func (m *model) note(key string, gone bool) bool {
	switch {
	case !m.written[key] && len(m.written) >= 48:
		return false
	case gone && !m.based[key]:
		delete(m.written, key)
	default:
		m.written[key] = true
	}
	return true
}

// commit begins anew over what there is.
func (m *model) commit() {
	m.based, m.written = map[string]bool{}, map[string]bool{}
	for ino, b := range m.files {
		for _, p := range stand(ino, b) {
			m.based[p.Key] = true
		}
	}
}

// read, write and truncate are told as the chapter tells them.
func (m *model) read(ino uint32, from, n int) ([]byte, api.Errno) {
	b, there := m.files[ino]
	switch {
	case !there:
		return nil, api.ErrHandle
	case from < 0, n < 0, n > 1024:
		return nil, api.ErrInvalid
	}
	from = min(from, len(b))
	return b[from:min(from+n, len(b))], api.OK
}

func (m *model) write(ino uint32, from int, more []byte) api.Errno {
	b, there := m.files[ino]
	switch {
	case !there:
		return api.ErrHandle
	case from < 0, len(more) > 1024:
		return api.ErrInvalid
	case from > 4096-len(more):
		return api.ErrBig
	case len(more) == 0:
		return api.OK
	}
	b = laid(b, from, more)
	for n := from / 64; n <= (from+len(more)-1)/64; n++ {
		block := b[64*n : min(64*n+64, len(b))]
		if !m.note(blockKey(ino, n), bytes.Equal(block, zeros(len(block)))) {
			return api.ErrTxFull
		}
	}
	if !m.note(inodeKey(ino), false) {
		return api.ErrTxFull
	}
	m.files[ino] = b
	return api.OK
}

func (m *model) truncate(ino uint32, size int) api.Errno {
	b, there := m.files[ino]
	switch {
	case !there:
		return api.ErrHandle
	case size < 0:
		return api.ErrInvalid
	case size > 4096:
		return api.ErrBig
	}
	was, is := stand(ino, b), stand(ino, sized(b, size))
	for _, whole := range []bool{true, false} {
		for _, p := range was[:len(was)-1] {
			at := slices.IndexFunc(is, func(q api.Pair) bool { return q.Key == p.Key })
			behind := p.Key >= blockKey(ino, (size+63)/64)
			if behind == whole && (at < 0 || is[at] != p) && !m.note(p.Key, at < 0) {
				return api.ErrTxFull
			}
		}
	}
	if !m.note(inodeKey(ino), false) {
		return api.ErrTxFull
	}
	m.files[ino] = sized(b, size)
	return api.OK
}

// held fails the test, if a view doesn't show just the model's files, and writes just the keys that it says.
func (m *model) held(t *testing.T, v *view.View) {
	t.Helper()
	want, got, writes := map[string]string{}, map[string]string{}, map[string]bool{}
	for ino, b := range m.files {
		for _, p := range stand(ino, b) {
			want[p.Key] = p.Value
		}
		if all, err := All(v.Copy(), ino); !bytes.Equal(all, b) || err != api.OK {
			t.Fatalf("all of %d: %q, %v, not %q", ino, all, err, b)
		}
	}
	for _, p := range shown(v) {
		got[p.Key] = p.Value
	}
	for _, p := range v.Writes() {
		writes[p.Key] = true
	}
	if !equal(got, want) || !equal(writes, m.written) {
		t.Fatalf("shown: %q, not %q; written: %v, not %v", got, want, writes, m.written)
	}
}

// equal tells whether two maps are the same.
func equal[V comparable](a, b map[string]V) bool {
	for key, x := range a {
		if y, ok := b[key]; !ok || x != y {
			return false
		}
	}
	return len(a) == len(b)
}

// near answers numbers that are often at the edge of something.
func near(next func(n int) int) int {
	switch next(12) {
	case 0:
		return 64*next(65) + next(3) - 1
	case 1:
		return 4096 - next(70)
	case 2:
		return 4090 + next(12)
	case 3:
		return -next(3)
	case 4:
		return math.MaxInt - next(3)
	}
	return next(700)
}

// mixed are bytes, some of which are 0, and now and then all of them.
func mixed(next func(n int) int) []byte {
	b := zeros(next([]int{1, 3, 70, 70, 300, 1030}[next(6)]))
	if next(4) == 0 {
		return b
	}
	for i := range b {
		if next(3) > 0 {
			b[i] = byte(next(256))
		}
	}
	return b
}

// P19.1, P19.2: long rows of all calls, on files that lie side by side, with a commit now and then.
func TestRows(t *testing.T) {
	inos := []uint32{0, 2, 3, 255, 256, math.MaxUint32 - 1, math.MaxUint32}
	for seed := range uint32(20) {
		next := chance(seed + 1)
		m, v := &model{files: map[uint32][]byte{}}, view.New(tree.New())
		for _, ino := range inos {
			m.files[ino] = nil
			walk.Save(v, ino, file(0))
		}
		m.commit()
		v = anew(v)
		for step := range 600 {
			ino, from, n, more := inos[next(len(inos))], near(next), near(next), mixed(next)
			if next(20) == 0 {
				ino = 77
			}
			before := v.Copy()
			var got, want api.Errno
			switch next(4) {
			case 0:
				a, b := []byte(nil), []byte(nil)
				a, got = Read(v, ino, from, n)
				if b, want = m.read(ino, from, n); !bytes.Equal(a, b) {
					t.Fatalf("Read(%d, %d, %d): %q, not %q", ino, from, n, a, b)
				}
			case 1:
				got, want = Truncate(v, ino, n), m.truncate(ino, n)
			default:
				got, want = Write(v, ino, from, more), m.write(ino, from, more)
			}
			if got != want {
				t.Fatalf("row %d, step %d, of %d, %d, %d: %v, not %v", seed, step, ino, from, n, got, want)
			}
			if got == api.ErrTxFull {
				v = before
			}
			if got == api.ErrTxFull || next(25) == 0 {
				v = anew(v)
				m.commit()
			}
			m.held(t, v)
		}
	}
}

// P19.2: files that are made, linked, renamed and unlinked have what was written into them, and leave no block behind.
func TestInATree(t *testing.T) {
	v := view.New(tree.New())
	must(t, dirs.Make(v, "/d", api.Dir, 2), dirs.Make(v, "/d/f", api.File, 3), dirs.Make(v, "/g", api.File, 4))
	must(t, Write(v, 3, 10, some(1, 300)), Write(v, 4, 0, some(7, 70)), dirs.Link(v, "/d/f", "/h"))
	must(t, dirs.Rename(v, "/d/f", "/g"), dirs.Remove(v, "/d"))
	if b, err := All(v, 3); !bytes.Equal(b, joined(zeros(10), some(1, 300))) || err != api.OK {
		t.Errorf("%q, %v", b, err)
	}
	if b, err := All(v, 4); b != nil || err != api.ErrHandle {
		t.Errorf("%q, %v", b, err)
	}
	must(t, Truncate(v, 3, 70), dirs.Unlink(v, "/h"))
	if x, _ := walk.Load(v, 3); x != (api.Inode{Kind: api.File, Links: 1, Size: 70}) {
		t.Errorf("%v", x)
	}
	must(t, dirs.Unlink(v, "/g"))
	for _, p := range shown(v) {
		if p.Key != inodeKey(1) {
			t.Errorf("%q is left", p.Key)
		}
	}
}

// P19.1 (R1): values of blocks that may not be, and texts among the blocks that are no keys: what they say of the block's bytes counts, all else doesn't.
func TestJunk(t *testing.T) {
	ino := uint32(math.MaxUint32)
	junk := []string{"D" + four(ino), "D" + four(ino) + "\x00", blockKey(ino, 1) + "\x00", blockKey(ino, 2) + "x", "D" + four(ino) + "\xff\xff\xff", "D"}
	l := []api.Pair{
		{Key: inodeKey(ino), Value: written(file(260))},
		{Key: blockKey(ino, 0), Value: "ab\x00"},
		{Key: blockKey(ino, 1), Value: ""},
		{Key: blockKey(ino, 2), Value: string(some(1, 100))},
		{Key: blockKey(ino, 4), Value: string(some(9, 64))},
		{Key: blockKey(ino, 64), Value: "behind"},
		{Key: blockKey(ino, 65535), Value: "behind"},
	}
	for _, key := range junk {
		l = append(l, api.Pair{Key: key, Value: "junk"})
	}
	v := over(l)
	want := joined([]byte("ab"), zeros(126), some(1, 64), zeros(64), some(9, 4))
	if b, err := All(v, ino); !bytes.Equal(b, want) || err != api.OK {
		t.Errorf("%q, %v", b, err)
	}
	must(t, Write(v, ino, 190, []byte("z")))
	want[190] = 'z'
	if value, _ := v.Look(blockKey(ino, 2)); value != string(want[128:192]) {
		t.Errorf("%q", value)
	}
	must(t, Truncate(v, ino, 2))
	var left []string
	for _, p := range shown(v) {
		left = append(left, p.Key)
	}
	slices.Sort(left)
	stay := append([]string{inodeKey(ino), blockKey(ino, 0)}, junk...)
	slices.Sort(stay)
	if !slices.Equal(left, stay) {
		t.Errorf("left: %q, not %q", left, stay)
	}
	if b, err := All(v, ino); string(b) != "ab" || err != api.OK {
		t.Errorf("%q, %v", b, err)
	}
}

// P19.1: bytes that are 0 in front of a Size leave a block that has no key.
func TestShortenedToNone(t *testing.T) {
	v := over(stand(2, []byte(strings.Repeat("\x00", 40)+"abc")))
	must(t, Truncate(v, 2, 40))
	has(t, v, 2, zeros(40))
	v = over(stand(2, []byte("a\x00\x00b")))
	must(t, Truncate(v, 2, 3))
	has(t, v, 2, []byte("a\x00\x00"))
}
