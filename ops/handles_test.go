package ops

import (
	"bytes"
	"math"
	"slices"
	"testing"

	"flint/api"
	"flint/tree"
	"flint/view"
)

// P20.1: the lowest handle that isn't open is opened, of the file that is meant; all that are open are told, rising.
func TestLowest(t *testing.T) {
	next := chance(1)
	d := some()
	names, sizes := []string{"/d/f", "/h", "/n", "/d/g"}, []int{3, 70, 0, 3}
	want := map[int]int{}
	for range 3000 {
		if next(2) == 0 {
			handle, err := next(18)-1, api.OK
			if _, open := want[handle]; !open {
				err = api.ErrHandle
			}
			asked(t, d, api.Op{Kind: api.OpClose, Handle: handle}, api.Result{Err: err})
			delete(want, handle)
		} else {
			which := next(len(names))
			r := api.Result{}
			for r.N < api.MaxOpen {
				if _, open := want[r.N]; !open {
					break
				}
				r.N++
			}
			if r.N == api.MaxOpen {
				r = api.Result{Err: api.ErrMany}
			} else {
				want[r.N] = which
			}
			asked(t, d, api.Op{Kind: api.OpOpen, Path: names[which]}, r)
		}
		var open []int
		for handle := range api.MaxOpen {
			if which, ok := want[handle]; ok {
				open = append(open, handle)
				if r := d.Do(api.Op{Kind: api.OpRead, Handle: handle, N: 100}, 0); r.Err != api.OK || r.N != sizes[which] {
					t.Fatalf("%d: %+v", handle, r)
				}
			}
		}
		if l := d.Open(); !slices.Equal(l, open) {
			t.Fatalf("%v, not %v", l, open)
		}
	}
}

// P20.1: ErrMany comes behind what the path has for errors, and nothing is opened then; a handle that is closed is open again next.
func TestMany(t *testing.T) {
	d := opened(t, some(), "/h", api.MaxOpen)
	for _, c := range []struct {
		path string
		want api.Errno
	}{{"", api.ErrName}, {"h", api.ErrInvalid}, {"/x", api.ErrNone}, {"/h/x", api.ErrNotDir}, {"/", api.ErrIsDir}, {"/d", api.ErrIsDir}, {"/h", api.ErrMany}, {"/d/f", api.ErrMany}} {
		refused(t, d, api.Op{Kind: api.OpOpen, Path: c.path}, c.want)
	}
	if l := d.Open(); len(l) != api.MaxOpen || l[0] != 0 || l[15] != 15 {
		t.Errorf("%v", l)
	}
	asked(t, d, api.Op{Kind: api.OpClose, Handle: 15}, api.Result{})
	asked(t, d, api.Op{Kind: api.OpClose, Handle: 4}, api.Result{})
	refused(t, d, api.Op{Kind: api.OpOpen, Path: "/d"}, api.ErrIsDir)
	asked(t, d, api.Op{Kind: api.OpOpen, Path: "/d/f"}, api.Result{N: 4})
	asked(t, d, api.Op{Kind: api.OpOpen, Path: "/d/f"}, api.Result{N: 15})
	refused(t, d, api.Op{Kind: api.OpOpen, Path: "/d/f"}, api.ErrMany)
}

// P20.1: of a handle that isn't open each kind is ErrHandle, whatever else is wrong, and nothing is looked for.
func TestNotOpen(t *testing.T) {
	v := some().View()
	// A file of the number 0 is one that no path leads to; no handle is of it.
	v.Set(inodeKey(0), written(file(1, 3)))
	for _, open := range []int{0, 3} {
		d := New(v.Copy())
		opened(t, d, "/h", open)
		base := d.View().Reads()
		for _, handle := range []int{open, 5, 15, 16, 17, 255, 256, 1 << 32, math.MaxInt, math.MaxInt - 15, -1, -15, -16, math.MinInt, math.MinInt + 16} {
			for _, kind := range handleKinds {
				for _, n := range []int{0, 1, -1, 1025, 4097, math.MaxInt, math.MinInt} {
					refused(t, d, api.Op{Kind: kind, Path: "/h", Handle: handle, From: n, N: n, Data: make([]byte, 1+max(0, n%2000))}, api.ErrHandle)
				}
			}
		}
		if l := d.View().Reads(); !slices.Equal(l, base) || len(d.Open()) != open {
			t.Errorf("%q, not %q; %v", l, base, d.Open())
		}
	}
}

// P20.1: a handle is closed once, and the others stay as they are.
func TestClose(t *testing.T) {
	d := opened(t, some(), "/h", 3)
	asked(t, d, api.Op{Kind: api.OpClose, Handle: 1}, api.Result{})
	for _, kind := range handleKinds {
		refused(t, d, api.Op{Kind: kind, Handle: 1, N: 1, Data: []byte("x")}, api.ErrHandle)
	}
	for _, handle := range []int{0, 2} {
		asked(t, d, api.Op{Kind: api.OpRead, Handle: handle, N: 1}, api.Result{Data: []byte("a"), N: 1})
	}
	if l := d.Open(); !slices.Equal(l, []int{0, 2}) || len(d.View().Writes()) != 0 {
		t.Errorf("%v, %v", l, d.View().Writes())
	}
}

// P20.1: what is read, and how many bytes.
func TestRead(t *testing.T) {
	d := opened(t, some(), "/h", 1)
	whole := make([]byte, 70)
	whole[0], whole[64] = 'a', 'b'
	for from := range 80 {
		for _, n := range []int{0, 1, 5, 69, 70, 71, 1024} {
			first := min(from, 70)
			want := whole[first:min(first+n, 70)]
			asked(t, d, api.Op{Kind: api.OpRead, From: from, N: n}, api.Result{Data: want, N: len(want)})
		}
	}
	asked(t, d, api.Op{Kind: api.OpRead, From: math.MaxInt, N: 1024}, api.Result{})
	for _, o := range []api.Op{{From: -1}, {From: math.MinInt, N: 3}, {N: -1}, {N: math.MinInt}, {N: 1025}, {From: 100, N: math.MaxInt}} {
		o.Kind = api.OpRead
		refused(t, d, o, api.ErrInvalid)
	}
}

// P20.1: what is written, and how many bytes.
func TestWrite(t *testing.T) {
	for _, from := range []int{0, 1, 63, 64, 100, 3072} {
		for _, n := range []int{0, 1, 2, 64, 65, 1024} {
			d := opened(t, some(), "/h", 2)
			b := bytes.Repeat([]byte("x"), n)
			asked(t, d, api.Op{Kind: api.OpWrite, Handle: 1, From: from, Data: b}, api.Result{N: n})
			asked(t, d, api.Op{Kind: api.OpRead, From: from, N: n}, api.Result{Data: b[:min(n, max(n, 70-from))], N: n})
			size := uint32(70)
			if n > 0 {
				size = max(size, uint32(from+n))
			}
			asked(t, d, api.Op{Kind: api.OpStat, Path: "/h"}, api.Result{Stat: file(1, size)})
		}
	}
	d := opened(t, some(), "/h", 1)
	asked(t, d, api.Op{Kind: api.OpWrite, From: 4095, Data: []byte("z")}, api.Result{N: 1})
	for _, c := range []struct {
		from, n int
		want    api.Errno
	}{{-1, 0, api.ErrInvalid}, {math.MinInt, 5, api.ErrInvalid}, {0, 1025, api.ErrInvalid}, {5000, 1025, api.ErrInvalid}, {4096, 1, api.ErrBig}, {4095, 2, api.ErrBig}, {3073, 1024, api.ErrBig}, {math.MaxInt, 1, api.ErrBig}} {
		refused(t, d, api.Op{Kind: api.OpWrite, From: c.from, Data: make([]byte, c.n)}, c.want)
	}
}

// P20.1: a size is set.
func TestTruncate(t *testing.T) {
	for _, n := range []int{0, 1, 2, 64, 65, 70, 71, 4095, 4096} {
		d := opened(t, some(), "/h", 1)
		asked(t, d, api.Op{Kind: api.OpTruncate, N: n}, api.Result{})
		asked(t, d, api.Op{Kind: api.OpStat, Path: "/h"}, api.Result{Stat: file(1, uint32(n))})
		want := make([]byte, min(n, 100))
		if n > 0 {
			want[0] = 'a'
		}
		if n > 64 {
			want[64] = 'b'
		}
		asked(t, d, api.Op{Kind: api.OpRead, N: 100}, api.Result{Data: want, N: len(want)})
	}
	d := opened(t, some(), "/h", 1)
	for n, want := range map[int]api.Errno{-1: api.ErrInvalid, math.MinInt: api.ErrInvalid, 4097: api.ErrBig, math.MaxInt: api.ErrBig} {
		refused(t, d, api.Op{Kind: api.OpTruncate, N: n}, want)
	}
}

// P20.1: a handle stays open when its file is gone, in each way in which it goes; it is ErrHandle of layer 19 then, and can be closed.
func TestGone(t *testing.T) {
	for _, ops := range [][]api.Op{
		{{Kind: api.OpUnlink, Path: "/h"}},
		{{Kind: api.OpRename, Path: "/n", Other: "/h"}},
		{{Kind: api.OpUnlink, Path: "/h"}, {Kind: api.OpCreate, Path: "/h"}},
		{{Kind: api.OpUnlink, Path: "/h"}, {Kind: api.OpMkdir, Path: "/h"}},
		{{Kind: api.OpLink, Path: "/h", Other: "/i"}, {Kind: api.OpUnlink, Path: "/h"}, {Kind: api.OpUnlink, Path: "/i"}},
	} {
		d := opened(t, some(), "/h", 2)
		for _, o := range ops {
			asked(t, d, o, api.Result{})
		}
		refused(t, d, api.Op{Kind: api.OpRead, N: 1}, api.ErrHandle)
		refused(t, d, api.Op{Kind: api.OpRead, N: -1}, api.ErrHandle)
		refused(t, d, api.Op{Kind: api.OpWrite, Data: []byte("x")}, api.ErrHandle)
		refused(t, d, api.Op{Kind: api.OpWrite}, api.ErrHandle)
		refused(t, d, api.Op{Kind: api.OpTruncate, N: 1}, api.ErrHandle)
		if l := d.Open(); !slices.Equal(l, []int{0, 1}) {
			t.Errorf("%v", l)
		}
		asked(t, d, api.Op{Kind: api.OpOpen, Path: "/d/f"}, api.Result{N: 2})
		asked(t, d, api.Op{Kind: api.OpClose}, api.Result{})
		refused(t, d, api.Op{Kind: api.OpClose}, api.ErrHandle)
		asked(t, d, api.Op{Kind: api.OpOpen, Path: "/d/f"}, api.Result{N: 0})
		asked(t, d, api.Op{Kind: api.OpRead, N: 9}, api.Result{Data: []byte("abc"), N: 3})
	}
}

// P20.1: a handle is of a file, not of a path: it is read and written wherever its file has come to stand.
func TestMoved(t *testing.T) {
	d := opened(t, some(), "/d/f", 1)
	for _, o := range []api.Op{
		{Kind: api.OpRename, Path: "/d/f", Other: "/h"},
		{Kind: api.OpUnlink, Path: "/d/g"},
		{Kind: api.OpRename, Path: "/d", Other: "/o"},
		{Kind: api.OpRename, Path: "/h", Other: "/o/f"},
		{Kind: api.OpCreate, Path: "/h"},
	} {
		asked(t, d, o, api.Result{})
	}
	asked(t, d, api.Op{Kind: api.OpWrite, From: 1, Data: []byte("xyz")}, api.Result{N: 3})
	asked(t, d, api.Op{Kind: api.OpOpen, Path: "/o/f"}, api.Result{N: 1})
	asked(t, d, api.Op{Kind: api.OpOpen, Path: "/h"}, api.Result{N: 2})
	for handle, want := range []string{"axyz", "axyz", ""} {
		asked(t, d, api.Op{Kind: api.OpRead, Handle: handle, N: 9}, api.Result{Data: []byte(want), N: len(want)})
	}
}

// P20.1: desks over different views have handles of their own; over the same view they have the same files.
func TestTwoDesks(t *testing.T) {
	v := view.New(tree.New())
	a, b := New(v), New(v)
	asked(t, a, api.Op{Kind: api.OpCreate, Path: "/f"}, api.Result{})
	opened(t, a, "/f", 2)
	refused(t, b, api.Op{Kind: api.OpRead}, api.ErrHandle)
	asked(t, b, api.Op{Kind: api.OpOpen, Path: "/f"}, api.Result{N: 0})
	asked(t, a, api.Op{Kind: api.OpWrite, Handle: 1, Data: []byte("ab")}, api.Result{N: 2})
	asked(t, b, api.Op{Kind: api.OpRead, N: 9}, api.Result{Data: []byte("ab"), N: 2})
	asked(t, b, api.Op{Kind: api.OpClose}, api.Result{})
	if l := a.Open(); !slices.Equal(l, []int{0, 1}) || len(b.Open()) != 0 {
		t.Errorf("%v, %v", l, b.Open())
	}
}
