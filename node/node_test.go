package node

import (
	"math"
	"strings"
	"testing"

	"flint/api"
)

// edges are numbers at the limits of an inode's parts, and at the edges of each byte.
func edges() []uint32 {
	l := []uint32{
		0, 1, 2, 3, 63, 64, 65, 127, 128, 255, 256, 257, 258, 999, 1000, 1001, 1002, 4032, 4095, 4096, 4097, 5000,
		65535, 65536, 65537, 66536, 69632, 0x00ff00ff, 0x01020304, 0x7fffffff, 0x80000000, 0xff00ff00,
		math.MaxUint32 - 1, math.MaxUint32,
	}
	for n := range 4 {
		l = append(l, uint32(1)<<(8*n)+2, uint32(255)<<(8*n))
	}
	return l
}

// may is whether an inode may be, by the chapter's words.
func may(x api.Inode) bool {
	file := x.Kind == 1 && x.Links > 0 && x.Links < 1001 && x.Size < 4097 && x.Parent == 0
	dir := x.Kind == 2 && x.Links > 1 && x.Size == 0
	return file || dir
}

// written is an inode's writing, by the chapter's words.
func written(x api.Inode) string {
	b := []byte{x.Kind}
	for _, n := range [3]uint32{x.Links, x.Size, x.Parent} {
		b = append(b, byte(n>>24), byte(n>>16), byte(n>>8), byte(n))
	}
	return string(b)
}

// each hands on inodes of all edges, of the kinds that there are and of others.
func each(do func(x api.Inode)) {
	for _, kind := range []uint8{0, 1, 2, 3, 127, 128, 129, 130, 254, 255} {
		for _, links := range edges() {
			for _, size := range edges() {
				for _, parent := range edges() {
					do(api.Inode{Kind: kind, Links: links, Size: size, Parent: parent})
				}
			}
		}
	}
}

// P15.1: whether an inode may be, one by one.
func TestMay(t *testing.T) {
	for i, c := range []struct {
		x    api.Inode
		want bool
	}{
		{api.Inode{}, false},
		{api.Inode{Kind: api.File}, false},
		{api.Inode{Kind: api.File, Links: 1}, true},
		{api.Inode{Kind: api.File, Links: 2, Size: 258}, true},
		{api.Inode{Kind: api.File, Links: 1000, Size: 4096}, true},
		{api.Inode{Kind: api.File, Links: 1001}, false},
		{api.Inode{Kind: api.File, Links: math.MaxUint32}, false},
		{api.Inode{Kind: api.File, Links: 1, Size: 4097}, false},
		{api.Inode{Kind: api.File, Links: 1, Size: math.MaxUint32}, false},
		{api.Inode{Kind: api.File, Links: 1, Parent: 1}, false},
		{api.Inode{Kind: api.File, Links: 1, Parent: math.MaxUint32}, false},
		{api.Inode{Kind: api.Dir}, false},
		{api.Inode{Kind: api.Dir, Links: 1, Parent: 1}, false},
		{api.Inode{Kind: api.Dir, Links: 2}, true},
		{api.Inode{Kind: api.Dir, Links: 2, Parent: 1}, true},
		{api.Inode{Kind: api.Dir, Links: 2, Parent: math.MaxUint32}, true},
		{api.Inode{Kind: api.Dir, Links: 1001, Parent: 7}, true},
		{api.Inode{Kind: api.Dir, Links: math.MaxUint32, Parent: 7}, true},
		{api.Inode{Kind: api.Dir, Links: 2, Size: 1, Parent: 1}, false},
		{api.Inode{Kind: api.Dir, Links: 2, Size: math.MaxUint32}, false},
		{api.Inode{Kind: 3, Links: 2}, false},
		{api.Inode{Kind: 255, Links: 2}, false},
	} {
		if got := May(c.x); got != c.want {
			t.Errorf("%d: May(%v) = %v", i, c.x, got)
		}
	}
}

// P15.1: whether an inode may be, and its writing, at all edges; P15.2: what is put is got, if it may be.
func TestAllEdges(t *testing.T) {
	wrong := 0
	each(func(x api.Inode) {
		want := api.Inode{}
		if may(x) {
			want = x
		}
		s := Put(x)
		got, ok := Get(s)
		if May(x) != may(x) || s != written(x) || got != want || ok != may(x) {
			wrong++
			if wrong <= 10 {
				t.Errorf("%v: may %v, put %x, got %v, %v", x, May(x), s, got, ok)
			}
		}
	})
}

// P15.1: what an inode's writing is, of one that may not be, too.
func TestPut(t *testing.T) {
	for i, c := range []struct {
		x    api.Inode
		want string
	}{
		{api.Inode{}, strings.Repeat("\x00", 13)},
		{api.Inode{Kind: api.File, Links: 2, Size: 258}, "\x01\x00\x00\x00\x02\x00\x00\x01\x02\x00\x00\x00\x00"},
		{api.Inode{Kind: api.File, Links: 1000, Size: 4096}, "\x01\x00\x00\x03\xe8\x00\x00\x10\x00\x00\x00\x00\x00"},
		{api.Inode{Kind: api.Dir, Links: 0x01020304, Parent: 0x05060708}, "\x02\x01\x02\x03\x04\x00\x00\x00\x00\x05\x06\x07\x08"},
		{api.Inode{Kind: 255, Links: 0xfffefdfc, Size: 0x80000001, Parent: 0x10203040}, "\xff\xff\xfe\xfd\xfc\x80\x00\x00\x01\x10\x20\x30\x40"},
		{api.Inode{Kind: 255, Links: math.MaxUint32, Size: math.MaxUint32, Parent: math.MaxUint32}, strings.Repeat("\xff", 13)},
	} {
		if got := Put(c.x); got != c.want {
			t.Errorf("%d: Put(%v) = %x", i, c.x, got)
		}
	}
}

// P15.1: what is no writing, or that of an inode that may not be, is told, and the zero one is answered.
func TestGetWrong(t *testing.T) {
	file, dir := Put(New(api.File, 0)), Put(Root())
	wrong := []string{
		"", "\x00", "\x01", "\x02", "flint", strings.Repeat("\x00", 13), strings.Repeat("\x01", 13), strings.Repeat("\xff", 13),
		file + "\x00", "\x00" + file, file + file, file + dir, dir + "\x00", "\x02" + dir, strings.Repeat("\x02", 1<<16),
	}
	for _, s := range []string{file, dir} {
		for n := range len(s) {
			wrong = append(wrong, s[:n], s[n+1:], s[:n]+s[n+1:])
		}
	}
	for _, s := range wrong {
		if x, ok := Get(s); ok || x != (api.Inode{}) {
			t.Errorf("Get(%x) = %v, %v", s, x, ok)
		}
	}
}

// P15.2: what is got of bytes of a writing's length is written just so; what isn't got may not be.
func TestThereOfAllBytes(t *testing.T) {
	for _, s := range []string{Put(New(api.File, 0)), Put(Root()), Put(api.Inode{Kind: api.File, Links: 1000, Size: 4096})} {
		for at := range len(s) {
			for c := range 256 {
				b := []byte(s)
				b[at] = byte(c)
				x, ok := Get(string(b))
				if ok && (Put(x) != string(b) || !may(x)) {
					t.Errorf("Get(%x) = %v, %v", b, x, ok)
				}
				if y := read(string(b)); !ok && may(y) {
					t.Errorf("Get(%x) isn't %v", b, y)
				}
			}
		}
	}
}

// read is the inode of a writing, by the chapter's words, whether it may be or not.
func read(s string) api.Inode {
	n := [3]uint32{}
	for i := range n {
		for _, c := range []byte(s[1+4*i : 5+4*i]) {
			n[i] = n[i]<<8 | uint32(c)
		}
	}
	return api.Inode{Kind: s[0], Links: n[0], Size: n[1], Parent: n[2]}
}

// P15.1: the root is a directory of two links, that is its own parent, and may be.
func TestRoot(t *testing.T) {
	x := Root()
	if x != (api.Inode{Kind: 2, Links: 2, Parent: 1}) || !May(x) {
		t.Errorf("Root() = %v", x)
	}
}

// P15.1: what is new is a file, whatever parent is told, or else a directory in that parent; all of it may be.
func TestNew(t *testing.T) {
	for kind := range 256 {
		for _, parent := range edges() {
			want := api.Inode{Kind: 2, Links: 2, Parent: parent}
			if kind == 1 {
				want = api.Inode{Kind: 1, Links: 1}
			}
			if x := New(uint8(kind), parent); x != want || !May(x) {
				t.Errorf("New(%d, %d) = %v", kind, parent, x)
			}
		}
	}
}
