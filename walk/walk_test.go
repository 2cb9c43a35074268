package walk

import (
	"math"
	"slices"
	"strings"
	"testing"

	"flint/api"
	"flint/node"
	"flint/tree"
	"flint/view"
)

// four are a number's four bytes, the highest first.
func four(n uint32) string {
	return string([]byte{byte(n >> 24), byte(n >> 16), byte(n >> 8), byte(n)})
}

// inodeKey is an inode's key, by the words of chapter 9.
func inodeKey(ino uint32) string { return "I" + four(ino) }

// entryKey is an entry's key, by the words of chapter 9.
func entryKey(dir uint32, name string) string {
	if len(name) > 32 {
		return ""
	}
	return "E" + four(dir) + name
}

// written is an inode's writing, by the words of chapter 15.
func written(x api.Inode) string {
	return string([]byte{x.Kind}) + four(x.Links) + four(x.Size) + four(x.Parent)
}

// file and dir are inodes of their kinds.
func file(size uint32) api.Inode  { return api.Inode{Kind: api.File, Links: 1, Size: size} }
func dir(parent uint32) api.Inode { return api.Inode{Kind: api.Dir, Links: 2, Parent: parent} }

// over is a view over a tree of keys and values, that come one behind the other.
func over(l ...string) *view.View {
	t := tree.New()
	for i := 0; i < len(l); i += 2 {
		t = t.Set(l[i], l[i+1])
	}
	return view.New(t)
}

// full is a view over keys and values that has no room for one more key.
func full(l ...string) *view.View {
	v := over(l...)
	for i := range uint32(api.MaxWrites) {
		v.Set("full"+four(i), "")
	}
	return v
}

// numbers are numbers of inodes at all edges.
func numbers() []uint32 {
	return []uint32{0, 1, 2, 3, 127, 128, 254, 255, 256, 257, 65535, 65536, 1<<24 - 1, 1 << 24, 0x01020304, 0x7fffffff, 0x80000000, 0xfffffeff, 0xffffff00, math.MaxUint32 - 1, math.MaxUint32}
}

// named are names that may be, rising by bytes.
func named() []string {
	l := []string{"a", "A", "aa", "ab", "b", "\x01", " ", "...", ".a", "ä", "€", "\xff", "\xff\xff", "0", "a\n", strings.Repeat("a", 31), strings.Repeat("a", 32), strings.Repeat("\xff", 32)}
	slices.Sort(l)
	return l
}

// noted fails the test, if a view hasn't read just these keys, and no range.
func noted(t *testing.T, v *view.View, want ...string) {
	t.Helper()
	slices.Sort(want)
	if got := v.Reads(); !slices.Equal(got, slices.Compact(want)) || len(v.Ranges()) != 0 {
		t.Errorf("read: %q and %q, not %q", got, v.Ranges(), want)
	}
}

// wrote fails the test, if a view hasn't just these writes.
func wrote(t *testing.T, v *view.View, want ...api.Pair) {
	t.Helper()
	if got := v.Writes(); !slices.Equal(got, want) {
		t.Errorf("written: %v, not %v", got, want)
	}
}

// P17.1: an inode of each number is loaded, if its value is one's; its key is read, and nothing else.
func TestLoad(t *testing.T) {
	for _, ino := range numbers() {
		for _, c := range []struct {
			value string
			want  api.Inode
			ok    bool
		}{
			{written(file(0)), file(0), true},
			{written(file(4096)), file(4096), true},
			{written(dir(ino)), dir(ino), true},
			{written(api.Inode{Kind: api.Dir, Links: 70000, Parent: math.MaxUint32}), api.Inode{Kind: api.Dir, Links: 70000, Parent: math.MaxUint32}, true},
			{written(file(4097)), api.Inode{}, false},
			{written(api.Inode{}), api.Inode{}, false},
			{written(api.Inode{Kind: 3, Links: 2}), api.Inode{}, false},
			{"", api.Inode{}, false},
			{four(1), api.Inode{}, false},
			{written(file(0))[:12], api.Inode{}, false},
			{written(dir(1)) + "\x00", api.Inode{}, false},
			{strings.Repeat("\x01", 100000), api.Inode{}, false},
		} {
			v := over(inodeKey(ino), c.value, inodeKey(ino+1), written(file(5)), "I", written(file(6)))
			if x, ok := Load(v, ino); x != c.want || ok != c.ok {
				t.Errorf("Load(%d) of %.20q: %v, %v", ino, c.value, x, ok)
			}
			noted(t, v, inodeKey(ino))
			wrote(t, v)
		}
	}
}

// P17.1: what isn't there isn't loaded, but the root is; both are read.
func TestLoadNone(t *testing.T) {
	for _, ino := range numbers() {
		for _, v := range []*view.View{over(), over(inodeKey(ino-1), written(file(1)), inodeKey(ino+1), written(file(1)))} {
			want, there := api.Inode{}, ino == 1
			if there {
				want = api.Inode{Kind: 2, Links: 2, Parent: 1}
			}
			if x, ok := Load(v, ino); x != want || ok != there {
				t.Errorf("Load(%d) of none: %v, %v", ino, x, ok)
			}
			noted(t, v, inodeKey(ino))
			wrote(t, v)
		}
	}
}

// P17.1: the root's value is what counts, where it has one; cut it is there again, as it was at first.
func TestRoot(t *testing.T) {
	v := over(inodeKey(1), written(file(9)))
	for i, c := range []struct {
		act  func() bool
		want api.Inode
		ok   bool
	}{
		{func() bool { return true }, file(9), true},
		{func() bool { return Drop(v, 1) }, node.Root(), true},
		{func() bool { return Save(v, 1, api.Inode{Kind: api.Dir, Links: 5, Parent: 1}) }, api.Inode{Kind: api.Dir, Links: 5, Parent: 1}, true},
		{func() bool { return Save(v, 1, api.Inode{}) }, api.Inode{}, false},
		{func() bool { return v.Set(inodeKey(1), "") }, api.Inode{}, false},
		{func() bool { return Drop(v, 1) }, node.Root(), true},
	} {
		if !c.act() {
			t.Errorf("act %d isn't done", i)
		}
		if x, ok := Load(v, 1); x != c.want || ok != c.ok {
			t.Errorf("behind act %d: %v, %v", i, x, ok)
		}
	}
}

// P17.1: an inode's value is written, of one that may not be, too; nothing is read.
func TestSave(t *testing.T) {
	for _, ino := range numbers() {
		for _, x := range []api.Inode{file(7), dir(ino), {}, {Kind: 255, Links: math.MaxUint32, Size: 258, Parent: 65537}, {Kind: api.File, Links: 1001}} {
			for _, v := range []*view.View{over(), over(inodeKey(ino), written(file(1)))} {
				if !Save(v, ino, x) {
					t.Errorf("Save(%d, %v) isn't done", ino, x)
				}
				wrote(t, v, api.Pair{Key: inodeKey(ino), Value: written(x)})
				noted(t, v)
				if got, ok := Load(v, ino); ok != node.May(x) || ok && got != x || !ok && got != (api.Inode{}) {
					t.Errorf("Load behind Save(%d, %v): %v, %v", ino, x, got, ok)
				}
			}
		}
	}
}

// P17.1: an inode's key is cut, and no other one; nothing is read.
func TestDrop(t *testing.T) {
	for _, ino := range numbers() {
		v := over(inodeKey(ino), written(file(1)), inodeKey(ino+1), written(file(2)), entryKey(ino, "a"), four(ino))
		if !Drop(v, ino) {
			t.Errorf("Drop(%d) isn't done", ino)
		}
		wrote(t, v, api.Pair{Key: inodeKey(ino), Gone: true})
		noted(t, v)
		if !Drop(v, ino) || !Drop(v, ino+2) {
			t.Errorf("Drop of what isn't there isn't done")
		}
		wrote(t, v, api.Pair{Key: inodeKey(ino), Gone: true})
		if x, ok := Load(v, ino); ok != (ino == 1) {
			t.Errorf("Load behind Drop(%d): %v", ino, x)
		}
	}
}

// P17.1: an entry's number is told, if its value is four bytes; its key is read, and nothing else.
func TestChild(t *testing.T) {
	for _, in := range numbers() {
		for _, name := range append(named(), "", "/", ".", "..", "a/b", "\x00", "a\x00") {
			for _, ino := range numbers() {
				v := over(entryKey(in, name), four(ino), entryKey(in, name+"a"), four(7), entryKey(in+1, name), four(8))
				if got, ok := Child(v, in, name); got != ino || !ok {
					t.Errorf("Child(%d, %q): %d, %v, not %d", in, name, got, ok, ino)
				}
				noted(t, v, entryKey(in, name))
				wrote(t, v)
			}
			for _, value := range []string{"", "\x00", "\x00\x00\x02", "\x00\x00\x00\x00\x02", written(file(1)), strings.Repeat("\x01", 100000)} {
				v := over(entryKey(in, name), value)
				if got, ok := Child(v, in, name); got != 0 || ok {
					t.Errorf("Child(%d, %q) of %.20q: %d, %v", in, name, value, got, ok)
				}
				noted(t, v, entryKey(in, name))
			}
		}
	}
}

// P17.1: an entry that isn't there has no number, whatever stands beside it; it is read.
func TestChildNone(t *testing.T) {
	for _, c := range []struct {
		dir  uint32
		name string
	}{{1, "b"}, {2, "a"}, {0, "a"}, {257, "a"}, {1, ""}, {1, "A"}, {1, "a\x00"}, {1, strings.Repeat("a", 33)}, {1, strings.Repeat("a", 100000)}} {
		v := over(entryKey(1, "a"), four(2), entryKey(1, strings.Repeat("a", 32)), four(3), "E", four(4))
		if got, ok := Child(v, c.dir, c.name); got != 0 || ok {
			t.Errorf("Child(%d, %.40q): %d, %v", c.dir, c.name, got, ok)
		}
		noted(t, v, entryKey(c.dir, c.name))
	}
}

// P17.1: an entry is written, and cut; nothing is read.
func TestHang(t *testing.T) {
	for _, in := range numbers() {
		for _, name := range append(named(), "", "/", ".", "..", "a/b", "\x00", strings.Repeat("a", 33)) {
			for _, ino := range numbers() {
				v := over()
				if !Hang(v, in, name, ino) {
					t.Errorf("Hang(%d, %q, %d) isn't done", in, name, ino)
				}
				wrote(t, v, api.Pair{Key: entryKey(in, name), Value: four(ino)})
				noted(t, v)
				if !Unhang(v, in, name) {
					t.Errorf("Unhang(%d, %q) isn't done", in, name)
				}
				wrote(t, v)
				noted(t, v)
			}
			v := over(entryKey(in, name), four(2), entryKey(in, "other"), four(2), inodeKey(in), written(file(0)))
			if !Unhang(v, in, name) || !Unhang(v, in, "none") {
				t.Errorf("Unhang(%d, %q) isn't done", in, name)
			}
			wrote(t, v, api.Pair{Key: entryKey(in, name), Gone: true})
		}
	}
}

// P17.1: where the view has no room, nothing is done, but with keys that are written already.
func TestNoRoom(t *testing.T) {
	base := []string{inodeKey(1), written(dir(1)), inodeKey(2), written(file(1)), entryKey(1, "a"), four(2)}
	v := full(base...)
	was := v.Writes()
	if Save(v, 2, file(3)) || Save(v, 3, file(3)) || Drop(v, 2) || Drop(v, 3) || Hang(v, 1, "a", 3) || Hang(v, 1, "b", 3) || Unhang(v, 1, "a") || Unhang(v, 1, "b") {
		t.Error("done without room")
	}
	wrote(t, v, was...)
	if x, ok := Load(v, 2); x != file(1) || !ok {
		t.Error(x, ok)
	}
	if ino, ok := Child(v, 1, "a"); ino != 2 || !ok {
		t.Error(ino, ok)
	}
	v = over(base...)
	if !Save(v, 2, file(3)) || !Hang(v, 1, "a", 3) {
		t.Fatal("not done")
	}
	for i := range uint32(api.MaxWrites) {
		v.Set("full"+four(i), "")
	}
	if !Save(v, 2, file(4)) || !Hang(v, 1, "a", 4) || Save(v, 3, file(4)) || Hang(v, 1, "b", 4) {
		t.Error("keys that are written have room, others have none")
	}
	if !Drop(v, 2) || !Unhang(v, 1, "a") || Drop(v, 1) {
		t.Error("likewise of what is cut")
	}
}

// P17.1: a nil view has nothing but the root, and no room.
func TestNil(t *testing.T) {
	for _, ino := range numbers() {
		if x, ok := Load(nil, ino); ok != (ino == 1) || ok && x != node.Root() || !ok && x != (api.Inode{}) {
			t.Error(ino, x, ok)
		}
		if Save(nil, ino, file(1)) || Drop(nil, ino) || Hang(nil, ino, "a", 2) || Unhang(nil, ino, "a") {
			t.Error("room", ino)
		}
		if n, ok := Child(nil, ino, "a"); n != 0 || ok {
			t.Error(ino, n)
		}
		if l := List(nil, ino); len(l) != 0 {
			t.Error(ino, l)
		}
	}
	if s, e := Find(nil, "/a"); s != (api.Spot{Dir: 1, Name: "a"}) || e != api.OK {
		t.Error(s, e)
	}
	if s, e := Find(nil, "/a/b"); s != (api.Spot{}) || e != api.ErrNone {
		t.Error(s, e)
	}
	if n, x, e := Lead(nil, "/"); n != 1 || x != node.Root() || e != api.OK {
		t.Error(n, x, e)
	}
	if n, x, e := Lead(nil, "/a"); n != 0 || x != (api.Inode{}) || e != api.ErrNone {
		t.Error(n, x, e)
	}
}

// P17.1: all entries of a directory are listed, rising, of whatever value, and no others; their range is read.
func TestList(t *testing.T) {
	for _, in := range numbers() {
		v := over("E", "", "F", "", inodeKey(in), written(dir(1)), "D"+four(in)+"\x00\x00", "1")
		for i, name := range named() {
			v.Set(entryKey(in, name), strings.Repeat("v", i))
			Hang(v, in-1, name+"-", 2)
			Hang(v, in+1, name[:1], 2)
		}
		l := List(v, in)
		if !slices.Equal(l, named()) {
			t.Errorf("List(%d): %q", in, l)
		}
		if r := v.Ranges(); len(r) != 1 || r[0][0] != "E"+four(in) || !(r[0][1] > "E"+four(in)+strings.Repeat("\xff", 33)) {
			t.Errorf("List(%d) has read %q", in, r)
		}
		if len(v.Reads()) != 0 {
			t.Errorf("List(%d) has read %q", in, v.Reads())
		}
		clear(l)
		_ = append(l[:0], "other")
		if !slices.Equal(List(v, in), named()) || len(v.Ranges()) != 1 {
			t.Error("a list isn't new memory")
		}
	}
}

// P17.1: a directory without entries, one whose inode isn't there, and a file: what is listed hangs on entries alone.
func TestListOfAny(t *testing.T) {
	v := over(inodeKey(2), written(dir(1)), inodeKey(3), written(file(0)), entryKey(3, "x"), four(2), entryKey(4, "y"), "")
	for in, want := range [][]string{nil, nil, nil, {"x"}, {"y"}, nil} {
		if l := List(v, uint32(in)); !slices.Equal(l, want) {
			t.Error(in, l)
		}
	}
}

// P17.1: texts that are no keys (9) are no entries, though they stand among them.
func TestListOfNoKeys(t *testing.T) {
	v := over("E"+four(1), four(2), entryKey(1, "a"), four(2), "E"+four(1)+strings.Repeat("a", 33), four(2), entryKey(1, "a/b"), four(2), "E"+four(1)+strings.Repeat("z", 100000), four(2), entryKey(1, ".."), four(2))
	if l := List(v, 1); !slices.Equal(l, []string{"..", "a", "a/b"}) {
		t.Error(l)
	}
}
