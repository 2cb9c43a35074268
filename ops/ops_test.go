package ops

import (
	"bytes"
	"fmt"
	"math"
	"slices"
	"strings"
	"testing"

	"flint/api"
	"flint/tree"
	"flint/view"
)

// four are a number's four bytes, the highest first.
func four(n uint32) string {
	return string([]byte{byte(n >> 24), byte(n >> 16), byte(n >> 8), byte(n)})
}

// inodeKey, entryKey and blockKey are keys, by the words of chapter 9.
func inodeKey(ino uint32) string              { return "I" + four(ino) }
func entryKey(dir uint32, name string) string { return "E" + four(dir) + name }
func blockKey(ino uint32, n int) string       { return "D" + four(ino) + four(uint32(n))[2:] }

// written is an inode's writing, by the words of chapter 15.
func written(x api.Inode) string {
	return string([]byte{x.Kind}) + four(x.Links) + four(x.Size) + four(x.Parent)
}

// file and dir are inodes of their kinds.
func file(links, size uint32) api.Inode {
	return api.Inode{Kind: api.File, Links: links, Size: size}
}

func dir(links, parent uint32) api.Inode {
	return api.Inode{Kind: api.Dir, Links: links, Parent: parent}
}

// some is a desk over directories and files:
//
//	/d 2, /d/e 3, /d/f 4 and /d/g 4 of "abc", /h 5 of 70 bytes, /n 6 of none, /m 7 of MaxLinks links
func some() *Desk {
	t := tree.New()
	for _, p := range [][2]string{
		{inodeKey(1), written(dir(3, 1))},
		{entryKey(1, "d"), four(2)},
		{inodeKey(2), written(dir(3, 1))},
		{entryKey(2, "e"), four(3)},
		{inodeKey(3), written(dir(2, 2))},
		{entryKey(2, "f"), four(4)},
		{entryKey(2, "g"), four(4)},
		{inodeKey(4), written(file(2, 3))},
		{blockKey(4, 0), "abc"},
		{entryKey(1, "h"), four(5)},
		{inodeKey(5), written(file(1, 70))},
		{blockKey(5, 0), "a"},
		{blockKey(5, 1), "b"},
		{entryKey(1, "n"), four(6)},
		{inodeKey(6), written(file(1, 0))},
		{entryKey(1, "m"), four(7)},
		{inodeKey(7), written(file(api.MaxLinks, 0))},
	} {
		t = t.Set(p[0], p[1])
	}
	return New(view.New(t))
}

// shown is all that a view shows, which isn't read for that.
func shown(v *view.View) []api.Pair {
	return v.Copy().Range("", "\xff\xff")
}

// filled writes so many keys more in a desk's view.
func filled(d *Desk, n int) *Desk {
	for i := range uint32(n) {
		d.View().Set("full"+four(i), "")
	}
	return d
}

// same tells whether two answers are the same in all their fields.
func same(a, b api.Result) bool {
	return a.Err == b.Err && a.N == b.N && bytes.Equal(a.Data, b.Data) && slices.Equal(a.Names, b.Names) && a.Stat == b.Stat
}

// asked fails the test, if a desk doesn't answer just what it should.
func asked(t *testing.T, d *Desk, o api.Op, want api.Result) {
	t.Helper()
	if got := d.Do(o, 20); !same(got, want) {
		t.Errorf("%+v: %+v, not %+v", o, got, want)
	}
}

// refused fails the test, if a desk doesn't answer just this error, or notes or changes something.
func refused(t *testing.T, d *Desk, o api.Op, want api.Errno) {
	t.Helper()
	was, handles := fmt.Sprint(d.View().Writes()), d.Open()
	asked(t, d, o, api.Result{Err: want})
	if is := fmt.Sprint(d.View().Writes()); is != was || !slices.Equal(d.Open(), handles) {
		t.Errorf("%+v, which is refused, makes %v of %v, and %v of %v", o, is, was, d.Open(), handles)
	}
}

// untouched tells whether a view has noted nothing.
func untouched(v *view.View) bool {
	return len(v.Writes()) == 0 && len(v.Reads()) == 0 && len(v.Ranges()) == 0
}

// opened opens so many handles of a file, all of which have to come to be open.
func opened(t *testing.T, d *Desk, path string, n int) *Desk {
	t.Helper()
	for range n {
		if r := d.Do(api.Op{Kind: api.OpOpen, Path: path}, 0); r.Err != api.OK {
			t.Fatalf("%s isn't opened: %v", path, r)
		}
	}
	return d
}

// handleKinds are those of which a handle is asked.
var handleKinds = []uint8{api.OpClose, api.OpRead, api.OpWrite, api.OpTruncate}

// P20.1: a new desk has its view, which it hasn't asked for anything, and no handle.
func TestNew(t *testing.T) {
	v := view.New(tree.New())
	d := New(v)
	if d.View() != v || len(d.Open()) != 0 || !untouched(v) {
		t.Errorf("%v, %v", d.View(), d.Open())
	}
}

// P20.1: a nil desk.
func TestNil(t *testing.T) {
	var d *Desk
	for kind := range 256 {
		if r := d.Do(api.Op{Kind: uint8(kind), Path: "/", Handle: -1}, 2); !same(r, api.Result{Err: api.ErrNoTx}) {
			t.Errorf("kind %d: %+v", kind, r)
		}
	}
	if d.View() != nil || d.Open() != nil {
		t.Errorf("%v, %v", d.View(), d.Open())
	}
}

// P20.1 (R1): over a nil view there is the root, and no room.
func TestNilView(t *testing.T) {
	d := New(nil)
	if d.View() != nil || len(d.Open()) != 0 {
		t.Errorf("%v, %v", d.View(), d.Open())
	}
	asked(t, d, api.Op{Kind: api.OpStat, Path: "/"}, api.Result{Stat: dir(2, 0)})
	asked(t, d, api.Op{Kind: api.OpReaddir, Path: "/"}, api.Result{})
	asked(t, d, api.Op{Kind: api.OpCreate, Path: "/a"}, api.Result{Err: api.ErrTxFull})
	asked(t, d, api.Op{Kind: api.OpMkdir, Path: "/a"}, api.Result{Err: api.ErrTxFull})
	for _, kind := range []uint8{api.OpOpen, api.OpRename, api.OpLink, api.OpUnlink, api.OpRmdir, api.OpReaddir, api.OpStat} {
		asked(t, d, api.Op{Kind: kind, Path: "/a", Other: "/b"}, api.Result{Err: api.ErrNone})
	}
	for _, kind := range handleKinds {
		asked(t, d, api.Op{Kind: kind}, api.Result{Err: api.ErrHandle})
	}
}

// P20.1: which kinds make an inode, whatever else is asked for.
func TestMakes(t *testing.T) {
	for kind := range 256 {
		want := kind == 4 || kind == 5
		for _, o := range []api.Op{{}, {Path: "/a", Other: "/b", Handle: 4, From: 5, N: 4, Data: []byte{5}}} {
			o.Kind = uint8(kind)
			if Makes(o) != want {
				t.Errorf("%+v: %v", o, !want)
			}
		}
	}
}

// P20.1: kinds that a desk doesn't do are ErrKind, ahead of all else, and nothing is done.
func TestOtherKinds(t *testing.T) {
	d := some()
	for kind := range 256 {
		if kind >= api.OpCreate && kind <= api.OpStat {
			continue
		}
		refused(t, d, api.Op{Kind: uint8(kind)}, api.ErrKind)
		refused(t, d, api.Op{Kind: uint8(kind), Path: "/d", Other: "/x", Handle: -1, From: -1, N: -1}, api.ErrKind)
	}
	if !untouched(d.View()) {
		t.Errorf("%v, %v, %v", d.View().Writes(), d.View().Reads(), d.View().Ranges())
	}
}

// paths are what each kind answers to the paths of some, in this order of errors.
func paths() []struct {
	o    api.Op
	want api.Result
} {
	type row = struct {
		o    api.Op
		want api.Result
	}
	var l []row
	add := func(kind uint8, path, other string, want api.Result) {
		l = append(l, row{api.Op{Kind: kind, Path: path, Other: other}, want})
	}
	err := func(err api.Errno) api.Result { return api.Result{Err: err} }
	for kind := uint8(api.OpCreate); kind <= api.OpStat; kind++ {
		if slices.Contains(handleKinds, kind) {
			continue
		}
		add(kind, "", "/x", err(api.ErrName))
		add(kind, "d", "/x", err(api.ErrInvalid))
		add(kind, "/d/", "/x", err(api.ErrName))
		add(kind, "/d/..", "/x", err(api.ErrName))
		add(kind, "/"+strings.Repeat("a", 33), "/x", err(api.ErrName))
		add(kind, strings.Repeat("/a", 17), "/x", err(api.ErrName))
		add(kind, "/x/a", "/x", err(api.ErrNone))
		add(kind, "/h/a", "/x", err(api.ErrNotDir))
		if !Makes(api.Op{Kind: kind}) {
			add(kind, "/x", "/y", err(api.ErrNone))
			add(kind, "/d/x", "/y", err(api.ErrNone))
		}
	}
	for _, kind := range []uint8{api.OpCreate, api.OpMkdir} {
		for _, path := range []string{"/", "/d", "/d/e", "/d/f", "/h"} {
			add(kind, path, "", err(api.ErrExists))
		}
		add(kind, "/x", "", err(api.OK))
		add(kind, "/d/e/x", "", err(api.OK))
	}
	for _, kind := range []uint8{api.OpOpen, api.OpUnlink} {
		for _, path := range []string{"/", "/d", "/d/e"} {
			add(kind, path, "", err(api.ErrIsDir))
		}
		add(kind, "/h", "", err(api.OK))
		add(kind, "/d/f", "", err(api.OK))
	}
	for _, kind := range []uint8{api.OpRename, api.OpLink} {
		add(kind, "/h", "x", err(api.ErrInvalid))
		add(kind, "/h", "/h/x", err(api.ErrNotDir))
		add(kind, "/h", "/x/y", err(api.ErrNone))
		add(kind, "/h", "/x", err(api.OK))
		add(kind, "/d/f", "/d/e/x", err(api.OK))
	}
	add(api.OpRename, "/", "x", err(api.ErrRoot))
	add(api.OpRename, "/h", "/", err(api.ErrRoot))
	add(api.OpRename, "/h", "/d", err(api.ErrIsDir))
	add(api.OpRename, "/d", "/h", err(api.ErrNotDir))
	add(api.OpRename, "/d/e", "/d", err(api.ErrNotEmpty))
	add(api.OpRename, "/d", "/d/e/x", err(api.ErrInvalid))
	add(api.OpRename, "/h", "/n", err(api.OK))
	add(api.OpRename, "/d", "/x", err(api.OK))
	add(api.OpLink, "/d", "x", err(api.ErrIsDir))
	add(api.OpLink, "/h", "/d", err(api.ErrExists))
	add(api.OpLink, "/m", "/h", err(api.ErrExists))
	add(api.OpLink, "/m", "/x", err(api.ErrLinks))
	add(api.OpRmdir, "/", "", err(api.ErrRoot))
	add(api.OpRmdir, "/h", "", err(api.ErrNotDir))
	add(api.OpRmdir, "/d", "", err(api.ErrNotEmpty))
	add(api.OpRmdir, "/d/e", "", err(api.OK))
	add(api.OpReaddir, "/h", "", err(api.ErrNotDir))
	add(api.OpReaddir, "/", "", api.Result{Names: []string{"d", "h", "m", "n"}})
	add(api.OpReaddir, "/d", "", api.Result{Names: []string{"e", "f", "g"}})
	add(api.OpReaddir, "/d/e", "", api.Result{})
	add(api.OpStat, "/", "", api.Result{Stat: dir(3, 0)})
	add(api.OpStat, "/d", "", api.Result{Stat: dir(3, 0)})
	add(api.OpStat, "/d/e", "", api.Result{Stat: dir(2, 0)})
	add(api.OpStat, "/d/f", "", api.Result{Stat: file(2, 3)})
	add(api.OpStat, "/h", "", api.Result{Stat: file(1, 70)})
	add(api.OpStat, "/m", "", api.Result{Stat: file(api.MaxLinks, 0)})
	return l
}

// P20.1: what is asked for by paths, with all errors; what is refused is answered with its error alone, and changes nothing.
func TestPaths(t *testing.T) {
	for _, c := range paths() {
		if c.want.Err != api.OK {
			refused(t, some(), c.o, c.want.Err)
		} else {
			asked(t, some(), c.o, c.want)
		}
	}
}

// P20.1: fields that a kind doesn't name don't count, a handle that is open neither.
func TestOtherFields(t *testing.T) {
	for _, c := range paths() {
		plain, odd := opened(t, some(), "/h", 2), opened(t, some(), "/h", 2)
		o := c.o
		o.Handle, o.From, o.N, o.Data = 1, -7, 5000, make([]byte, 2000)
		if o.Kind != api.OpRename && o.Kind != api.OpLink {
			o.Other = "/h/odd"
		}
		want := c.want
		if o.Kind == api.OpOpen && want.Err == api.OK {
			want.N = 2
		}
		asked(t, plain, c.o, want)
		asked(t, odd, o, want)
		if !slices.Equal(plain.View().Writes(), odd.View().Writes()) || !slices.Equal(plain.Open(), odd.Open()) {
			t.Errorf("%+v: %v, %v", o, odd.View().Writes(), odd.Open())
		}
	}
	for _, kind := range handleKinds {
		d := opened(t, some(), "/h", 1)
		o := api.Op{Kind: kind, Path: "x", Other: "x", N: 1, Data: []byte("c")}
		switch kind {
		case api.OpRead:
			o.Data = make([]byte, 2000)
			asked(t, d, o, api.Result{Data: []byte("a"), N: 1})
		case api.OpWrite:
			o.N = -1
			asked(t, d, o, api.Result{N: 1})
		case api.OpTruncate:
			o.From = -1
			asked(t, d, o, api.Result{})
		case api.OpClose:
			o.N, o.From = -1, -1
			asked(t, d, o, api.Result{})
		}
	}
}

// P20.1: what is made is of the number that is handed in, and of the kind.
func TestMade(t *testing.T) {
	for _, ino := range []uint32{2, 9, 256, math.MaxUint32} {
		d := New(view.New(tree.New()))
		if r := d.Do(api.Op{Kind: api.OpCreate, Path: "/a"}, ino); !same(r, api.Result{}) {
			t.Errorf("%+v", r)
		}
		want := []api.Pair{{Key: entryKey(1, "a"), Value: four(ino)}, {Key: inodeKey(ino), Value: written(file(1, 0))}}
		if l := shown(d.View()); !slices.Equal(l, want) {
			t.Errorf("%v, not %v", l, want)
		}
		d = New(view.New(tree.New()))
		if r := d.Do(api.Op{Kind: api.OpMkdir, Path: "/a"}, ino); !same(r, api.Result{}) {
			t.Errorf("%+v", r)
		}
		want = []api.Pair{{Key: entryKey(1, "a"), Value: four(ino)}, {Key: inodeKey(1), Value: written(dir(3, 1))}, {Key: inodeKey(ino), Value: written(dir(2, 1))}}
		if l := shown(d.View()); !slices.Equal(l, want) {
			t.Errorf("%v, not %v", l, want)
		}
	}
}

// P20.1: the number that is handed in counts for nothing but what is made.
func TestNumberElsewhere(t *testing.T) {
	for _, c := range paths() {
		if Makes(c.o) {
			continue
		}
		a, b := some(), some()
		if x, y := a.Do(c.o, 0), b.Do(c.o, math.MaxUint32); !same(x, y) || !slices.Equal(shown(a.View()), shown(b.View())) {
			t.Errorf("%+v: %+v, %+v", c.o, x, y)
		}
	}
}

// P20.1: where the view has no room, whatever writes is ErrTxFull and nothing else; errors go ahead of that, and what only looks is answered.
func TestFull(t *testing.T) {
	full := func() *Desk {
		d := opened(t, some(), "/h", 2)
		return filled(d, api.MaxWrites)
	}
	writes := []uint8{api.OpCreate, api.OpMkdir, api.OpRename, api.OpLink, api.OpUnlink, api.OpRmdir}
	for _, c := range paths() {
		d, want := full(), c.want
		if want.Err == api.OK && slices.Contains(writes, c.o.Kind) {
			want = api.Result{Err: api.ErrTxFull}
		}
		if c.o.Kind == api.OpOpen && want.Err == api.OK {
			want.N = 2
		}
		asked(t, d, c.o, want)
		if len(d.View().Writes()) != api.MaxWrites {
			t.Errorf("%+v: %v", c.o, d.View().Writes())
		}
	}
	d := full()
	asked(t, d, api.Op{Kind: api.OpRead, Handle: 1, N: 2}, api.Result{Data: []byte("a\x00"), N: 2})
	asked(t, d, api.Op{Kind: api.OpWrite, Handle: 1}, api.Result{})
	asked(t, d, api.Op{Kind: api.OpWrite, Handle: 1, Data: []byte("abc")}, api.Result{Err: api.ErrTxFull})
	asked(t, d, api.Op{Kind: api.OpTruncate, Handle: 1, N: 3}, api.Result{Err: api.ErrTxFull})
	asked(t, d, api.Op{Kind: api.OpWrite, Handle: 1, From: 5000, Data: []byte("abc")}, api.Result{Err: api.ErrBig})
	asked(t, d, api.Op{Kind: api.OpTruncate, Handle: 1, N: -3}, api.Result{Err: api.ErrInvalid})
	asked(t, d, api.Op{Kind: api.OpClose, Handle: 1}, api.Result{})
	if l := d.Open(); !slices.Equal(l, []int{0}) {
		t.Errorf("%v", l)
	}
}

// P20.1 (R3): what is handed in isn't kept or changed, and what is answered is new memory.
func TestMemory(t *testing.T) {
	d := opened(t, some(), "/n", 1)
	b := []byte("abcd")
	asked(t, d, api.Op{Kind: api.OpWrite, Data: b}, api.Result{N: 4})
	if string(b) != "abcd" {
		t.Errorf("%q", b)
	}
	copy(b, "xxxx")
	read, list := api.Op{Kind: api.OpRead, N: 9}, api.Op{Kind: api.OpReaddir, Path: "/d"}
	want, names := api.Result{Data: []byte("abcd"), N: 4}, api.Result{Names: []string{"e", "f", "g"}}
	for range 2 {
		asked(t, d, read, want)
		asked(t, d, list, names)
		copy(d.Do(read, 0).Data, "yyyy")
		copy(d.Do(list, 0).Names, []string{"y", "y", "y"})
	}
	opened(t, d, "/n", 2)
	open := d.Open()
	open[0], open[1] = 9, 9
	if l := d.Open(); !slices.Equal(l, []int{0, 1, 2}) {
		t.Errorf("%v", l)
	}
}

// P20.1: the example of the chapter.
func TestExample(t *testing.T) {
	d := New(view.New(tree.New()))
	asked(t, d, api.Op{Kind: api.OpCreate, Path: "/a"}, api.Result{})
	asked(t, d, api.Op{Kind: api.OpOpen, Path: "/a"}, api.Result{N: 0})
	asked(t, d, api.Op{Kind: api.OpWrite, Data: []byte("bytes")}, api.Result{N: 5})
	asked(t, d, api.Op{Kind: api.OpRead, N: 100}, api.Result{Data: []byte("bytes"), N: 5})
}
