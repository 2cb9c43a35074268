package dirs

import (
	"slices"
	"strings"
	"testing"

	"flint/api"
	"flint/tree"
	"flint/view"
	"flint/walk"
)

// needs are calls that work in some, each with how many keys it writes there.
func needs() map[string]struct {
	call func(v *view.View) api.Errno
	keys int
} {
	type need = struct {
		call func(v *view.View) api.Errno
		keys int
	}
	return map[string]need{
		"make a file":                    {func(v *view.View) api.Errno { return Make(v, "/n/new", api.File, 20) }, 2},
		"make a directory":               {func(v *view.View) api.Errno { return Make(v, "/n/new", api.Dir, 20) }, 3},
		"remove":                         {func(v *view.View) api.Errno { return Remove(v, "/d/e/i") }, 3},
		"link":                           {func(v *view.View) api.Errno { return Link(v, "/h", "/n/new") }, 2},
		"unlink one of two":              {func(v *view.View) api.Errno { return Unlink(v, "/d/f") }, 2},
		"unlink the last one":            {func(v *view.View) api.Errno { return Unlink(v, "/h") }, 2},
		"move a file":                    {func(v *view.View) api.Errno { return Rename(v, "/h", "/n/new") }, 2},
		"move a file over one":           {func(v *view.View) api.Errno { return Rename(v, "/h", "/n/m") }, 3},
		"move a file over one of two":    {func(v *view.View) api.Errno { return Rename(v, "/h", "/d/f") }, 3},
		"move a directory":               {func(v *view.View) api.Errno { return Rename(v, "/n", "/new") }, 2},
		"move a directory elsewhere":     {func(v *view.View) api.Errno { return Rename(v, "/n", "/d/n") }, 5},
		"move a directory over another":  {func(v *view.View) api.Errno { return Rename(v, "/n", "/d/e/i") }, 6},
		"move a directory over its like": {func(v *view.View) api.Errno { return Rename(v, "/d/e", "/d/o") }, 4},
	}
}

// P18.1: each call needs just the keys that it writes; where the view has no room for one, it is ErrTxFull.
func TestRoom(t *testing.T) {
	for name, need := range needs() {
		for n := range api.MaxWrites + 1 {
			v := some(t)
			must(t, Make(v, "/d/o", api.Dir, 40))
			v = filled(anew(v), n)
			want := api.OK
			if n+need.keys > api.MaxWrites {
				want = api.ErrTxFull
			}
			if err := need.call(v); err != want {
				t.Errorf("%s: with %d keys written: %v, not %v", name, n, err, want)
			}
			if want == api.OK && len(v.Writes()) != n+need.keys {
				t.Errorf("%s writes %d keys, not %d", name, len(v.Writes())-n, need.keys)
			}
		}
	}
}

// P18.1: errors are told ahead of room, and nothing is done with them.
func TestErrorsWithoutRoom(t *testing.T) {
	v := filled(some(t), api.MaxWrites)
	was := v.Writes()
	for i, c := range []struct{ got, want api.Errno }{
		{Make(v, "/d", api.Dir, 20), api.ErrExists},
		{Remove(v, "/d"), api.ErrNotEmpty},
		{Link(v, "/d", "/new"), api.ErrIsDir},
		{Link(v, "/h", "/d"), api.ErrExists},
		{Unlink(v, "/d"), api.ErrIsDir},
		{Rename(v, "/d", "/d/e"), api.ErrInvalid},
		{Rename(v, "/d", "/h"), api.ErrNotDir},
		{Rename(v, "/h", "/d"), api.ErrIsDir},
		{Rename(v, "/h", "/x/y"), api.ErrNone},
	} {
		if c.got != c.want {
			t.Errorf("call %d: %v, not %v", i, c.got, c.want)
		}
	}
	if !slices.Equal(v.Writes(), was) {
		t.Error("something is done")
	}
}

// P18.1: what was made in the same view needs no room to go, and makes some.
func TestRoomOfOwn(t *testing.T) {
	v := view.New(tree.New())
	must(t, Make(v, "/d", api.Dir, 2), Make(v, "/d/f", api.File, 3), Make(v, "/d/e", api.Dir, 4))
	v.Set(blockKey(3, 0), "a")
	n := len(v.Writes())
	filled(v, api.MaxWrites-n)
	if err := Make(v, "/d/g", api.File, 5); err != api.ErrTxFull {
		t.Error(err)
	}
	must(t, Rename(v, "/d/f", "/d/g"), Rename(v, "/d/g", "/f"), Rename(v, "/d/e", "/e"), Unlink(v, "/f"), Remove(v, "/e"), Remove(v, "/d"))
	// The root has its links again, but is written.
	if got := len(v.Writes()); got != api.MaxWrites-n+1 {
		t.Errorf("%d keys are written", got)
	}
	must(t, Make(v, "/d", api.Dir, 6))
}

// P18.1: a file goes with as many blocks as there is room for, beside its entry and its inode.
func TestRoomOfBlocks(t *testing.T) {
	for blocks, want := range map[int]api.Errno{0: api.OK, 1: api.OK, 45: api.OK, 46: api.OK, 47: api.ErrTxFull, 64: api.ErrTxFull} {
		l := shown(some(t))
		for n := range blocks {
			l = append(l, api.Pair{Key: blockKey(7, n), Value: "a"})
		}
		v := over(l)
		walk.Save(v, 7, api.Inode{Kind: api.File, Links: 1, Size: 4096})
		v = anew(v)
		if err := Unlink(v, "/h"); err != want {
			t.Errorf("%d blocks: %v, not %v", blocks, err, want)
		}
	}
}

// P18.1: an entry goes ahead of what it means, so that what the blocks of the same view leave comes too late.
func TestRoomInOrder(t *testing.T) {
	for n, want := range map[int]api.Errno{45: api.OK, 46: api.ErrTxFull} {
		v := some(t)
		walk.Save(v, 7, api.Inode{Kind: api.File, Links: 1, Size: 1})
		v.Set(blockKey(7, 0), "a")
		if err := Unlink(filled(v, n), "/h"); err != want {
			t.Errorf("unlink with %d keys more: %v, not %v", n, err, want)
		}
	}
	for n, want := range map[int]api.Errno{42: api.OK, 43: api.ErrTxFull} {
		v := some(t)
		must(t, Make(v, "/n/o", api.Dir, 20))
		if err := Rename(filled(v, n), "/n/o", "/d/e/i"); err != want {
			t.Errorf("rename with %d keys more: %v, not %v", n, err, want)
		}
	}
}

// P18.1: a block that has no room to go is told, though the inode of the same view would have some.
func TestRoomOfABlock(t *testing.T) {
	v := some(t)
	v.Set(blockKey(7, 0), "a")
	v = anew(v)
	walk.Save(v, 7, api.Inode{Kind: api.File, Links: 1, Size: 64})
	if err := Unlink(filled(v, api.MaxWrites-2), "/h"); err != api.ErrTxFull {
		t.Error(err)
	}
}

// P18.1: each call reads what its words ask for, and no more: so others may work beside it.
func TestReads(t *testing.T) {
	r, d, e, f, n, h := inodeKey(1), inodeKey(2), inodeKey(3), inodeKey(4), inodeKey(5), inodeKey(7)
	rd, rn, rh, de, df, nx := entryKey(1, "d"), entryKey(1, "n"), entryKey(1, "h"), entryKey(2, "e"), entryKey(2, "f"), entryKey(5, "x")
	for name, c := range map[string]struct {
		call  func(v *view.View) api.Errno
		want  api.Errno
		reads []string
		dirs  []uint32
	}{
		"make a file":         {func(v *view.View) api.Errno { return Make(v, "/n/x", api.File, 20) }, api.OK, []string{r, rn, n, nx}, nil},
		"make a directory":    {func(v *view.View) api.Errno { return Make(v, "/n/x", api.Dir, 20) }, api.OK, []string{r, rn, n, nx}, nil},
		"remove none":         {func(v *view.View) api.Errno { return Remove(v, "/n/x") }, api.ErrNone, []string{r, rn, n, nx}, nil},
		"remove the root":     {func(v *view.View) api.Errno { return Remove(v, "/") }, api.ErrRoot, []string{r}, nil},
		"remove a file":       {func(v *view.View) api.Errno { return Remove(v, "/h") }, api.ErrNotDir, []string{r, rh, h}, nil},
		"remove with entries": {func(v *view.View) api.Errno { return Remove(v, "/d/e") }, api.ErrNotEmpty, []string{r, rd, d, de, e}, []uint32{3}},
		"list":                {func(v *view.View) api.Errno { _, err := List(v, "/d"); return err }, api.OK, []string{r, rd, d}, []uint32{2}},
		"list a file":         {func(v *view.View) api.Errno { _, err := List(v, "/h"); return err }, api.ErrNotDir, []string{r, rh, h}, nil},
		"link":                {func(v *view.View) api.Errno { return Link(v, "/h", "/n/x") }, api.OK, []string{r, rh, h, rn, n, nx}, nil},
		"link a directory":    {func(v *view.View) api.Errno { return Link(v, "/d", "/n/x") }, api.ErrIsDir, []string{r, rd, d}, nil},
		"unlink":              {func(v *view.View) api.Errno { return Unlink(v, "/d/f") }, api.OK, []string{r, rd, d, df, f}, nil},
		"move none":           {func(v *view.View) api.Errno { return Rename(v, "/n/x", "/d/f") }, api.ErrNone, []string{r, rn, n, nx}, nil},
		"move a file":         {func(v *view.View) api.Errno { return Rename(v, "/h", "/n/x") }, api.OK, []string{r, rh, h, rn, n, nx}, nil},
		"move a directory":    {func(v *view.View) api.Errno { return Rename(v, "/d", "/n/x") }, api.OK, []string{r, rd, d, rn, n, nx}, nil},
		"move over entries":   {func(v *view.View) api.Errno { return Rename(v, "/n", "/d/e") }, api.ErrNotEmpty, []string{r, rn, n, rd, d, de, e}, []uint32{3}},
		"move into itself":    {func(v *view.View) api.Errno { return Rename(v, "/d", "/d/e") }, api.ErrInvalid, []string{r, rd, d, de, e}, nil},
		"move to the same":    {func(v *view.View) api.Errno { return Rename(v, "/d/e", "/d/e") }, api.OK, []string{r, rd, d, de, e}, nil},
		"a file over one":     {func(v *view.View) api.Errno { return Rename(v, "/h", "/d/f") }, api.OK, []string{r, rh, h, rd, d, df, f}, nil},
	} {
		v := some(t)
		if err := c.call(v); err != c.want {
			t.Errorf("%s: %v, not %v", name, err, c.want)
		}
		slices.Sort(c.reads)
		if got := v.Reads(); !slices.Equal(got, c.reads) {
			t.Errorf("%s has read %q, not %q", name, got, c.reads)
		}
		var ranges [][2]string
		for _, ino := range c.dirs {
			ranges = append(ranges, [2]string{"E" + four(ino), "E" + four(ino+1)})
		}
		if got := v.Ranges(); !slices.Equal(got, ranges) {
			t.Errorf("%s has read %q, not %q", name, got, ranges)
		}
	}
}

// P18.1: who makes a file in a directory hinders nobody who makes another one there.
func TestBeside(t *testing.T) {
	base := shown(some(t))
	a, b := over(base), over(base)
	must(t, Make(a, "/d/a", api.File, 20), Make(b, "/d/b", api.File, 21))
	for _, p := range a.Writes() {
		if slices.Contains(b.Reads(), p.Key) || len(b.Ranges()) > 0 && strings.HasPrefix(p.Key, "E") {
			t.Errorf("%q was read", p.Key)
		}
	}
}
