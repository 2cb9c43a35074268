package dirs

import (
	"strings"
	"testing"

	"flint/api"
	"flint/tree"
	"flint/view"
	"flint/walk"
)

// P18.1: Rename's errors, in their order.
func TestRenameErrors(t *testing.T) {
	for _, c := range []struct {
		old, path string
		want      api.Errno
	}{
		{"/", "/", api.ErrRoot},
		{"/", "/new", api.ErrRoot},
		{"/", "", api.ErrRoot},
		{"/", "/x/y", api.ErrRoot},
		{"/x", "/", api.ErrNone},
		{"/x", "/x", api.ErrNone},
		{"/x", "", api.ErrNone},
		{"/x", "/h/y", api.ErrNone},
		{"/lost", "/new", api.ErrNone},
		{"/odd", "/new", api.ErrNone},
		{"/bad", "/new", api.ErrNone},
		{"/h", "", api.ErrName},
		{"/h", "h", api.ErrInvalid},
		{"/h", "/x/y", api.ErrNone},
		{"/h", "/h/y", api.ErrNotDir},
		{"/h", "/", api.ErrRoot},
		{"/d", "/", api.ErrRoot},
		{"/d", "/d/x/y", api.ErrNone},
		{"/d", "/d/f/y", api.ErrNotDir},
		{"/d", "/d/new", api.ErrInvalid},
		{"/d", "/d/e", api.ErrInvalid},
		{"/d", "/d/f", api.ErrInvalid},
		{"/d", "/d/e/i/new", api.ErrInvalid},
		{"/d/e", "/d/e/i", api.ErrInvalid},
		{"/d", "/h", api.ErrNotDir},
		{"/d/e", "/d/f", api.ErrNotDir},
		{"/d/e/i", "/n/m", api.ErrNotDir},
		{"/d", "/n", api.ErrNotEmpty},
		{"/d/e", "/d", api.ErrNotEmpty},
		{"/d/e/i", "/d", api.ErrNotEmpty},
		{"/d/e/i", "/d/e", api.ErrNotEmpty},
		{"/h", "/d", api.ErrIsDir},
		{"/h", "/d/e/i", api.ErrIsDir},
		{"/d/f", "/d", api.ErrIsDir},
	} {
		v := some(t)
		if err := Rename(v, c.old, c.path); err != c.want {
			t.Errorf("Rename(%s, %s): %v, not %v", c.old, c.path, err, c.want)
		}
		same(t, v, c.old+" to "+c.path)
	}
}

// P18.1: if both mean the same inode, nothing is done, and no room is needed.
func TestRenameToTheSame(t *testing.T) {
	for _, c := range [][2]string{{"/h", "/h"}, {"/d", "/d"}, {"/d/e/i", "/d/e/i"}, {"/d/f", "/d/g"}, {"/d/g", "/d/f"}} {
		v := some(t)
		if err := Rename(v, c[0], c[1]); err != api.OK {
			t.Errorf("%q: %v", c, err)
		}
		same(t, v, c[0])
		if err := Rename(filled(v, api.MaxWrites), c[0], c[1]); err != api.OK {
			t.Errorf("%q without room: %v", c, err)
		}
	}
}

// moved fails the test, if a Rename in some doesn't just write these.
func moved(t *testing.T, old, path string, want ...api.Pair) *view.View {
	t.Helper()
	v := some(t)
	must(t, Rename(v, old, path))
	wrote(t, v, want...)
	return v
}

// P18.1: a file's entry goes, and another one means it; its inode stays as it is.
func TestRenameFile(t *testing.T) {
	moved(t, "/h", "/new", api.Pair{Key: entryKey(1, "h"), Gone: true}, api.Pair{Key: entryKey(1, "new"), Value: four(7)})
	moved(t, "/h", "/lost", api.Pair{Key: entryKey(1, "h"), Gone: true}, api.Pair{Key: entryKey(1, "lost"), Value: four(7)})
	moved(t, "/d/f", "/n/new", api.Pair{Key: entryKey(2, "f"), Gone: true}, api.Pair{Key: entryKey(5, "new"), Value: four(4)})
	v := moved(t, "/n/m", "/d/e/i/m", api.Pair{Key: entryKey(5, "m"), Gone: true}, api.Pair{Key: entryKey(8, "m"), Value: four(6)})
	means(t, v, "/n/m", 0)
	means(t, v, "/d/e/i/m", 6)
	must(t, Remove(v, "/n"))
}

// P18.1: the file that is there is unlinked: a link of it goes, or all of it.
func TestRenameOverFile(t *testing.T) {
	moved(t, "/h", "/d/f", api.Pair{Key: entryKey(1, "h"), Gone: true}, api.Pair{Key: entryKey(2, "f"), Value: four(7)}, api.Pair{Key: inodeKey(4), Value: written(file(1))})
	moved(t, "/d/f", "/h", api.Pair{Key: entryKey(1, "h"), Value: four(4)}, api.Pair{Key: entryKey(2, "f"), Gone: true}, api.Pair{Key: inodeKey(7), Gone: true})
	v := some(t)
	walk.Save(v, 7, api.Inode{Kind: api.File, Links: 1, Size: 65})
	v.Set(blockKey(7, 0), "a")
	v.Set(blockKey(7, 1), "b")
	v.Set(blockKey(6, 0), "c")
	v = anew(v)
	must(t, Rename(v, "/n/m", "/h"))
	wrote(t, v, api.Pair{Key: blockKey(7, 0), Gone: true}, api.Pair{Key: blockKey(7, 1), Gone: true}, api.Pair{Key: entryKey(1, "h"), Value: four(6)}, api.Pair{Key: entryKey(5, "m"), Gone: true}, api.Pair{Key: inodeKey(7), Gone: true})
	means(t, v, "/h", 6)
}

// P18.1: a directory in the same directory takes no links along; into another one it does, and that is its parent.
func TestRenameDir(t *testing.T) {
	moved(t, "/d", "/new", api.Pair{Key: entryKey(1, "d"), Gone: true}, api.Pair{Key: entryKey(1, "new"), Value: four(2)})
	moved(t, "/n", "/odd", api.Pair{Key: entryKey(1, "n"), Gone: true}, api.Pair{Key: entryKey(1, "odd"), Value: four(5)})
	moved(t, "/d/e", "/n/new", api.Pair{Key: entryKey(2, "e"), Gone: true}, api.Pair{Key: entryKey(5, "new"), Value: four(3)},
		api.Pair{Key: inodeKey(2), Value: written(dir(2, 1))}, api.Pair{Key: inodeKey(3), Value: written(dir(3, 5))}, api.Pair{Key: inodeKey(5), Value: written(dir(3, 1))})
	v := moved(t, "/d/e/i", "/i", api.Pair{Key: entryKey(1, "i"), Value: four(8)}, api.Pair{Key: entryKey(3, "i"), Gone: true},
		api.Pair{Key: inodeKey(1), Value: written(dir(5, 1))}, api.Pair{Key: inodeKey(3), Value: written(dir(2, 2))}, api.Pair{Key: inodeKey(8), Value: written(dir(2, 1))})
	must(t, Rename(v, "/d", "/i/d"))
	is(t, v, 1, dir(4, 1))
	is(t, v, 8, dir(3, 1))
	is(t, v, 2, dir(3, 8))
	means(t, v, "/i/d/e", 3)
}

// P18.1: a directory without entries that is there goes: its links, too.
func TestRenameOverDir(t *testing.T) {
	v := some(t)
	must(t, Make(v, "/n/o", api.Dir, 20), Make(v, "/o", api.Dir, 21))
	base := shown(v)
	v = over(base)
	must(t, Rename(v, "/d", "/o"))
	wrote(t, v, api.Pair{Key: entryKey(1, "d"), Gone: true}, api.Pair{Key: entryKey(1, "o"), Value: four(2)}, api.Pair{Key: inodeKey(1), Value: written(dir(4, 1))}, api.Pair{Key: inodeKey(21), Gone: true})
	v = over(base)
	must(t, Rename(v, "/d/e", "/n/o"))
	wrote(t, v, api.Pair{Key: entryKey(2, "e"), Gone: true}, api.Pair{Key: entryKey(5, "o"), Value: four(3)},
		api.Pair{Key: inodeKey(2), Value: written(dir(2, 1))}, api.Pair{Key: inodeKey(3), Value: written(dir(3, 5))}, api.Pair{Key: inodeKey(5), Value: written(dir(3, 1))}, api.Pair{Key: inodeKey(20), Gone: true})
	v = over(base)
	must(t, Rename(v, "/d/e", "/o"))
	is(t, v, 1, dir(5, 1))
	v = over(base)
	must(t, Rename(v, "/o", "/d/e/i"))
	is(t, v, 1, dir(4, 1))
	is(t, v, 3, dir(3, 2))
	is(t, v, 8, api.Inode{})
	is(t, v, 21, dir(2, 3))
}

// P18.1: names that begin as others do don't stand under them.
func TestRenameBeside(t *testing.T) {
	for _, path := range []string{"/dd", "/d2", "/n/d", "/n/dd"} {
		v := some(t)
		must(t, Rename(v, "/d", path))
		means(t, v, path+"/e/i", 8)
	}
}

// P18.1, P18.2: a directory comes to stand deeper than paths lead; it is told by what can still be gone to, and comes back.
func TestRenameDeep(t *testing.T) {
	v := view.New(tree.New())
	for i := 1; i <= 16; i++ {
		must(t, Make(v, strings.Repeat("/a", i), api.Dir, uint32(i)+1))
	}
	v = anew(v)
	must(t, Make(v, "/b", api.Dir, 30), Make(v, "/b/c", api.Dir, 31), Make(v, "/b/c/f", api.File, 32))
	deep := strings.Repeat("/a", 15)
	must(t, Rename(v, "/b", deep+"/b"))
	is(t, v, 30, dir(3, 16))
	is(t, v, 16, dir(4, 15))
	is(t, v, 1, dir(3, 1))
	if _, err := List(v, deep+"/b/c"); err != api.ErrName {
		t.Error(err)
	}
	if err := Remove(v, deep+"/b"); err != api.ErrNotEmpty {
		t.Error(err)
	}
	sound(t, v)
	must(t, Rename(v, deep+"/b", "/b"), Unlink(v, "/b/c/f"), Remove(v, "/b/c"), Remove(v, "/b"))
	is(t, v, 16, dir(3, 15))
	sound(t, v)
}
