package dirs

import (
	"math"
	"slices"
	"strings"
	"testing"

	"flint/api"
	"flint/tree"
	"flint/view"
	"flint/walk"
)

// four are a number's four bytes, the highest first.
func four(n uint32) string {
	return string([]byte{byte(n >> 24), byte(n >> 16), byte(n >> 8), byte(n)})
}

// inodeKey, entryKey and blockKey are keys, by the words of chapter 9.
func inodeKey(ino uint32) string              { return "I" + four(ino) }
func entryKey(dir uint32, name string) string { return "E" + four(dir) + name }
func blockKey(ino uint32, n int) string       { return "D" + four(ino) + four(uint32(n))[2:] }

// written is an inode's writing, by the words of chapter 15.
func written(x api.Inode) string {
	return string([]byte{x.Kind}) + four(x.Links) + four(x.Size) + four(x.Parent)
}

// file and dir are inodes of their kinds.
func file(links uint32) api.Inode { return api.Inode{Kind: api.File, Links: links} }
func dir(links, parent uint32) api.Inode {
	return api.Inode{Kind: api.Dir, Links: links, Parent: parent}
}

// shown is all that a view shows, which isn't read for that.
func shown(v *view.View) []api.Pair {
	return v.Copy().Range("", "\xff\xff")
}

// over is a view of keys and values.
func over(l []api.Pair) *view.View {
	t := tree.New()
	for _, p := range l {
		t = t.Set(p.Key, p.Value)
	}
	return view.New(t)
}

// anew is a view over all that another one shows, as behind a commit.
func anew(v *view.View) *view.View {
	return over(shown(v))
}

// filled is a view that writes so many keys more.
func filled(v *view.View, n int) *view.View {
	for i := range uint32(n) {
		v.Set("full"+four(i), "")
	}
	return v
}

// must fails the test, if an answer isn't OK.
func must(t *testing.T, answers ...api.Errno) {
	t.Helper()
	for i, err := range answers {
		if err != api.OK {
			t.Fatalf("answer %d: %v", i, err)
		}
	}
}

// wrote fails the test, if a view hasn't just these writes.
func wrote(t *testing.T, v *view.View, want ...api.Pair) {
	t.Helper()
	if l := v.Writes(); !slices.Equal(l, want) {
		t.Errorf("written: %v, not %v", l, want)
	}
}

// is fails the test, if an inode isn't as it should be; of the zero one, if it is there.
func is(t *testing.T, v *view.View, ino uint32, want api.Inode) {
	t.Helper()
	if x, ok := walk.Load(v.Copy(), ino); x != want || ok != (want != api.Inode{}) {
		t.Errorf("the inode %d: %v, %v, not %v", ino, x, ok, want)
	}
}

// means fails the test, if a path doesn't lead to an inode; to 0, if it leads to one.
func means(t *testing.T, v *view.View, path string, ino uint32) {
	t.Helper()
	if s, err := walk.Find(v.Copy(), path); s.Ino != ino || err != api.OK {
		t.Errorf("%s: %d, %v, not %d", path, s.Ino, err, ino)
	}
}

// some are directories and files, and entries that mean none:
//
//	/d 2, /d/e 3, /d/e/i 8, /d/f 4, /d/g 4, /n 5, /n/m 6, /h 7, /lost, /odd, /bad
func some(t *testing.T) *view.View {
	t.Helper()
	v := view.New(tree.New())
	must(t, Make(v, "/d", api.Dir, 2), Make(v, "/d/e", api.Dir, 3), Make(v, "/d/e/i", api.Dir, 8), Make(v, "/d/f", api.File, 4), Link(v, "/d/f", "/d/g"))
	must(t, Make(v, "/n", api.Dir, 5), Make(v, "/n/m", api.File, 6), Make(v, "/h", api.File, 7))
	walk.Hang(v, 1, "lost", 99)
	walk.Hang(v, 1, "odd", 98)
	v.Set(inodeKey(98), "odd")
	v.Set(entryKey(1, "bad"), "bad")
	return anew(v)
}

// same fails the test, if a call that is refused has written something.
func same(t *testing.T, v *view.View, what string) {
	t.Helper()
	if l := v.Writes(); len(l) != 0 {
		t.Errorf("%s has written %v", what, l)
	}
}

// wrong are paths that lead nowhere in some, whatever is asked of them, with Find's errors.
func wrong() map[string]api.Errno {
	return map[string]api.Errno{
		"":                               api.ErrName,
		"d":                              api.ErrInvalid,
		"//":                             api.ErrName,
		"/d/":                            api.ErrName,
		"/.":                             api.ErrName,
		"/d/..":                          api.ErrName,
		"/d/e\x00":                       api.ErrName,
		"/" + strings.Repeat("n", 33):    api.ErrName,
		strings.Repeat("/n", 17):         api.ErrName,
		"/d" + strings.Repeat("/e", 127): api.ErrName,
		strings.Repeat("d", 256):         api.ErrName,
		"/x/y":                           api.ErrNone,
		"/d/x/y":                         api.ErrNone,
		"/lost/y":                        api.ErrNone,
		"/odd/y":                         api.ErrNone,
		"/bad/y":                         api.ErrNone,
		"/h/y":                           api.ErrNotDir,
		"/d/f/y":                         api.ErrNotDir,
		"/d/f/y/z":                       api.ErrNotDir,
	}
}

// P18.1: Find's error is the first one of each call.
func TestFindsErrors(t *testing.T) {
	for path, want := range wrong() {
		v := some(t)
		for i, err := range []api.Errno{Make(v, path, api.File, 20), Make(v, path, api.Dir, 20), Remove(v, path), Link(v, path, "/new"), Link(v, "/h", path), Unlink(v, path), Rename(v, path, "/new"), Rename(v, "/h", path), Rename(v, "/d", path), Link(v, path, path), Rename(v, path, path)} {
			if err != want {
				t.Errorf("call %d of %.40q: %v, not %v", i, path, err, want)
			}
		}
		if l, err := List(v, path); len(l) != 0 || err != want {
			t.Errorf("List(%.40q): %q, %v, not %v", path, l, err, want)
		}
		same(t, v, path)
	}
}

// P18.1: Make refuses what is there, whatever it is; entries that mean none aren't there.
func TestMakeErrors(t *testing.T) {
	for _, path := range []string{"/", "/d", "/d/e", "/d/f", "/d/g", "/n/m", "/h"} {
		for _, kind := range []uint8{api.File, api.Dir, 0, 255} {
			v := some(t)
			if err := Make(v, path, kind, 20); err != api.ErrExists {
				t.Errorf("Make(%s, %d): %v", path, kind, err)
			}
			same(t, v, path)
		}
	}
	for i, name := range []string{"lost", "odd", "bad"} {
		v := some(t)
		ino := uint32(30 + i)
		must(t, Make(v, "/"+name, api.File, ino))
		means(t, v, "/"+name, ino)
		is(t, v, ino, file(1))
	}
}

// P18.1: a new inode is there, of the kind and number that are told, with its entry and its parent's link, and nothing else is written.
func TestMake(t *testing.T) {
	for _, ino := range []uint32{2, 3, 255, 256, 65536, math.MaxUint32 - 1, math.MaxUint32} {
		v := view.New(tree.New())
		must(t, Make(v, "/a", api.File, ino))
		wrote(t, v, api.Pair{Key: entryKey(1, "a"), Value: four(ino)}, api.Pair{Key: inodeKey(ino), Value: written(file(1))})
		v = view.New(tree.New())
		must(t, Make(v, "/a", api.Dir, ino))
		wrote(t, v, api.Pair{Key: entryKey(1, "a"), Value: four(ino)}, api.Pair{Key: inodeKey(1), Value: written(dir(3, 1))}, api.Pair{Key: inodeKey(ino), Value: written(dir(2, 1))})
		must(t, Make(v, "/a/b", api.Dir, 7), Make(v, "/a/c", api.File, 8))
		is(t, v, 1, dir(3, 1))
		is(t, v, ino, dir(3, 1))
		is(t, v, 7, dir(2, ino))
		is(t, v, 8, file(1))
		means(t, v, "/a/b", 7)
		means(t, v, "/a/c", 8)
	}
}

// P18.1: a kind that there isn't makes a directory (15: New), with all that belongs to one.
func TestMakeOfNoKind(t *testing.T) {
	for _, kind := range []uint8{0, 3, 127, 255} {
		v := view.New(tree.New())
		must(t, Make(v, "/a", kind, 2))
		is(t, v, 2, dir(2, 1))
		is(t, v, 1, dir(3, 1))
	}
}

// P18.1: Remove's errors, in their order.
func TestRemoveErrors(t *testing.T) {
	for path, want := range map[string]api.Errno{"/": api.ErrRoot, "/x": api.ErrNone, "/d/x": api.ErrNone, "/lost": api.ErrNone, "/odd": api.ErrNone, "/bad": api.ErrNone, "/h": api.ErrNotDir, "/d/f": api.ErrNotDir, "/d": api.ErrNotEmpty, "/d/e": api.ErrNotEmpty, "/n": api.ErrNotEmpty} {
		v := some(t)
		if err := Remove(v, path); err != want {
			t.Errorf("Remove(%s): %v, not %v", path, err, want)
		}
		same(t, v, path)
	}
	if err := Remove(view.New(tree.New()), "/"); err != api.ErrRoot {
		t.Errorf("the root without entries: %v", err)
	}
}

// P18.1: a directory goes with its entry and a link of its parent; an entry of any value keeps one there.
func TestRemove(t *testing.T) {
	v := some(t)
	must(t, Remove(v, "/d/e/i"))
	wrote(t, v, api.Pair{Key: entryKey(3, "i"), Gone: true}, api.Pair{Key: inodeKey(3), Value: written(dir(2, 2))}, api.Pair{Key: inodeKey(8), Gone: true})
	must(t, Remove(v, "/d/e"))
	is(t, v, 3, api.Inode{})
	is(t, v, 2, dir(2, 1))
	means(t, v, "/d/e", 0)
	if err := Remove(v, "/d/e"); err != api.ErrNone {
		t.Error(err)
	}
	for _, value := range []string{"", "bad", four(0), four(99)} {
		v := some(t)
		v.Set(entryKey(8, "last"), value)
		if err := Remove(v, "/d/e/i"); err != api.ErrNotEmpty {
			t.Errorf("with an entry of %q: %v", value, err)
		}
	}
}

// P18.1: List's errors, and the names of a directory's entries, rising, as new memory.
func TestList(t *testing.T) {
	v := some(t)
	for path, want := range map[string]api.Errno{"/x": api.ErrNone, "/d/x": api.ErrNone, "/lost": api.ErrNone, "/odd": api.ErrNone, "/bad": api.ErrNone, "/h": api.ErrNotDir, "/d/f": api.ErrNotDir} {
		if l, err := List(v, path); len(l) != 0 || err != want {
			t.Errorf("List(%s): %q, %v, not %v", path, l, err, want)
		}
	}
	for path, want := range map[string][]string{"/": {"bad", "d", "h", "lost", "n", "odd"}, "/d": {"e", "f", "g"}, "/d/e": {"i"}, "/d/e/i": nil, "/n": {"m"}} {
		for range 2 {
			l, err := List(v, path)
			if !slices.Equal(l, want) || err != api.OK {
				t.Errorf("List(%s): %q, %v", path, l, err)
			}
			clear(l)
		}
	}
	same(t, v, "List")
}

// P18.1: Link's errors, in their order.
func TestLinkErrors(t *testing.T) {
	for _, c := range []struct {
		old, path string
		want      api.Errno
	}{
		{"/x", "/d", api.ErrNone},
		{"/x", "", api.ErrNone},
		{"/lost", "/h/y", api.ErrNone},
		{"/odd", "/new", api.ErrNone},
		{"/bad", "/new", api.ErrNone},
		{"/", "/new", api.ErrIsDir},
		{"/", "/", api.ErrIsDir},
		{"/d", "/new", api.ErrIsDir},
		{"/d/e", "/d", api.ErrIsDir},
		{"/d", "", api.ErrIsDir},
		{"/d", "/x/y", api.ErrIsDir},
		{"/h", "", api.ErrName},
		{"/h", "h", api.ErrInvalid},
		{"/h", "/x/y", api.ErrNone},
		{"/h", "/h/y", api.ErrNotDir},
		{"/h", "/", api.ErrExists},
		{"/h", "/h", api.ErrExists},
		{"/h", "/d", api.ErrExists},
		{"/d/f", "/d/g", api.ErrExists},
	} {
		v := some(t)
		if err := Link(v, c.old, c.path); err != c.want {
			t.Errorf("Link(%s, %s): %v, not %v", c.old, c.path, err, c.want)
		}
		same(t, v, c.old)
	}
}

// P18.1: a file has another entry, and a link more, wherever that entry stands.
func TestLink(t *testing.T) {
	v := some(t)
	x := api.Inode{Kind: api.File, Links: 1, Size: 70}
	walk.Save(v, 7, x)
	v = anew(v)
	must(t, Link(v, "/h", "/d/e/h"))
	x.Links = 2
	wrote(t, v, api.Pair{Key: entryKey(3, "h"), Value: four(7)}, api.Pair{Key: inodeKey(7), Value: written(x)})
	must(t, Link(v, "/d/e/h", "/lost"), Link(v, "/lost", "/new"), Link(v, "/d/f", "/n/f"))
	for _, path := range []string{"/h", "/d/e/h", "/lost", "/new"} {
		means(t, v, path, 7)
	}
	x.Links = 4
	is(t, v, 7, x)
	is(t, v, 4, file(3))
	is(t, v, 1, dir(4, 1))
}

// P18.1: a file has MaxLinks links, and no more; what there is already is told ahead of that.
func TestMaxLinks(t *testing.T) {
	v := some(t)
	walk.Save(v, 7, file(999))
	walk.Save(v, 6, file(1000))
	v = anew(v)
	if err := Link(v, "/n/m", "/new"); err != api.ErrLinks {
		t.Error(err)
	}
	if err := Link(v, "/n/m", "/d"); err != api.ErrExists {
		t.Error(err)
	}
	if err := Link(v, "/n/m", "/h/new"); err != api.ErrNotDir {
		t.Error(err)
	}
	same(t, v, "Link")
	must(t, Link(v, "/h", "/new"))
	is(t, v, 7, file(1000))
	if err := Link(v, "/new", "/newer"); err != api.ErrLinks {
		t.Error(err)
	}
	must(t, Unlink(v, "/h"), Link(v, "/new", "/newer"))
	is(t, v, 7, file(1000))
}

// P18.1: a directory may have more than MaxLinks links.
func TestManyDirs(t *testing.T) {
	v := view.New(tree.New())
	for i := range uint32(1010) {
		if i%20 == 19 {
			v = anew(v)
		}
		must(t, Make(v, "/"+strings.Repeat("x", 1+int(i)%30)+string(rune('0'+i/30)), api.Dir, i+2))
	}
	is(t, v, 1, dir(1012, 1))
}

// P18.1: Unlink's errors, in their order.
func TestUnlinkErrors(t *testing.T) {
	for path, want := range map[string]api.Errno{"/": api.ErrIsDir, "/x": api.ErrNone, "/d/x": api.ErrNone, "/lost": api.ErrNone, "/odd": api.ErrNone, "/bad": api.ErrNone, "/d": api.ErrIsDir, "/d/e": api.ErrIsDir, "/d/e/i": api.ErrIsDir} {
		v := some(t)
		if err := Unlink(v, path); err != want {
			t.Errorf("Unlink(%s): %v, not %v", path, err, want)
		}
		same(t, v, path)
	}
}

// P18.1: an entry goes, and a link; with the last one all blocks of the file, and the inode, and none of others.
func TestUnlink(t *testing.T) {
	v := some(t)
	x := api.Inode{Kind: api.File, Links: 2, Size: 4096}
	walk.Save(v, 4, x)
	for _, n := range []int{0, 1, 63, 64, 65535} {
		v.Set(blockKey(4, n), "a")
	}
	v.Set(blockKey(3, 0), "b")
	v.Set(blockKey(5, 0), "b")
	v = anew(v)
	must(t, Unlink(v, "/d/f"))
	x.Links = 1
	wrote(t, v, api.Pair{Key: entryKey(2, "f"), Gone: true}, api.Pair{Key: inodeKey(4), Value: written(x)})
	v = anew(v)
	must(t, Unlink(v, "/d/g"))
	var want []api.Pair
	for _, key := range []string{blockKey(4, 0), blockKey(4, 1), blockKey(4, 63), blockKey(4, 64), blockKey(4, 65535), entryKey(2, "g"), inodeKey(4)} {
		want = append(want, api.Pair{Key: key, Gone: true})
	}
	wrote(t, v, want...)
	means(t, v, "/d/g", 0)
	is(t, v, 2, dir(3, 1))
}

// P18.1: a text that is no key is no block, though it stands among them.
func TestUnlinkAmongNoKeys(t *testing.T) {
	v := some(t)
	odd := []string{"D" + four(7) + "\x00", "D" + four(7) + "\x00\x00\x00", "D" + four(7)}
	for _, key := range odd {
		v.Set(key, "odd")
	}
	v.Set(blockKey(7, 0), "a")
	must(t, Unlink(v, "/h"))
	for _, key := range odd {
		if _, ok := v.Look(key); !ok {
			t.Errorf("%q is gone", key)
		}
	}
	if _, ok := v.Look(blockKey(7, 0)); ok {
		t.Error("a block stays")
	}
}

// P18.1: the root may have a value that is none's: it is neither a file nor a directory that could be worked in.
func TestOddRoot(t *testing.T) {
	for _, value := range []string{"", "odd", written(dir(1, 1))} {
		v := over([]api.Pair{{Key: inodeKey(1), Value: value}, {Key: entryKey(1, "a"), Value: four(2)}, {Key: inodeKey(2), Value: written(file(1))}})
		for i, c := range []struct{ got, want api.Errno }{
			{Make(v, "/", api.File, 2), api.ErrExists},
			{Make(v, "/b", api.File, 3), api.ErrNotDir},
			{Remove(v, "/"), api.ErrRoot},
			{Remove(v, "/a"), api.ErrNotDir},
			{Unlink(v, "/"), api.ErrIsDir},
			{Link(v, "/", "/b"), api.ErrIsDir},
			{Rename(v, "/", "/b"), api.ErrRoot},
			{Rename(v, "/a", "/"), api.ErrNotDir},
		} {
			if c.got != c.want {
				t.Errorf("call %d with a root of %q: %v, not %v", i, value, c.got, c.want)
			}
		}
		if l, err := List(v, "/"); len(l) != 0 || err != api.ErrNotDir {
			t.Errorf("List with a root of %q: %q, %v", value, l, err)
		}
		same(t, v, value)
	}
}

// P18.1: a nil view has nothing but the root, and no room.
func TestNil(t *testing.T) {
	for i, c := range []struct{ got, want api.Errno }{
		{Make(nil, "/", api.Dir, 2), api.ErrExists},
		{Make(nil, "/a", api.File, 2), api.ErrTxFull},
		{Make(nil, "/a", api.Dir, 2), api.ErrTxFull},
		{Make(nil, "/a/b", api.Dir, 2), api.ErrNone},
		{Make(nil, "", api.Dir, 2), api.ErrName},
		{Remove(nil, "/"), api.ErrRoot},
		{Remove(nil, "/a"), api.ErrNone},
		{Link(nil, "/", "/a"), api.ErrIsDir},
		{Link(nil, "/a", "/b"), api.ErrNone},
		{Unlink(nil, "/"), api.ErrIsDir},
		{Unlink(nil, "/a"), api.ErrNone},
		{Rename(nil, "/", "/a"), api.ErrRoot},
		{Rename(nil, "/a", "/"), api.ErrNone},
	} {
		if c.got != c.want {
			t.Errorf("call %d: %v, not %v", i, c.got, c.want)
		}
	}
	if l, err := List(nil, "/"); len(l) != 0 || err != api.OK {
		t.Error(l, err)
	}
	if l, err := List(nil, "/a"); len(l) != 0 || err != api.ErrNone {
		t.Error(l, err)
	}
}
