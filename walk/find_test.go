package walk

import (
	"slices"
	"strings"
	"testing"

	"flint/api"
	"flint/node"
	"flint/view"
)

// small is a view of some files and directories, and of entries that mean none.
func small() *view.View {
	v := over()
	Hang(v, 1, "d", 2)
	Save(v, 2, dir(1))
	Hang(v, 2, "e", 3)
	Save(v, 3, dir(2))
	Hang(v, 2, "f", 4)
	Save(v, 4, file(7))
	Hang(v, 1, "f", 4)
	Hang(v, 2, "lost", 9)
	Hang(v, 2, "odd", 5)
	v.Set(inodeKey(5), "odd")
	v.Set(entryKey(2, "bad"), "bad")
	Hang(v, 3, "up", 1)
	return v
}

// P17.1: what paths lead to, one by one, with what is read for that.
func TestFind(t *testing.T) {
	r, d, e, f := inodeKey(1), inodeKey(2), inodeKey(3), inodeKey(4)
	for _, c := range []struct {
		path string
		want api.Spot
		read []string
	}{
		{"/", api.Spot{Ino: 1, Node: node.Root()}, []string{r}},
		{"/d", api.Spot{Dir: 1, Name: "d", Ino: 2, Node: dir(1)}, []string{r, entryKey(1, "d"), d}},
		{"/d/e", api.Spot{Dir: 2, Name: "e", Ino: 3, Node: dir(2)}, []string{r, entryKey(1, "d"), d, entryKey(2, "e"), e}},
		{"/d/f", api.Spot{Dir: 2, Name: "f", Ino: 4, Node: file(7)}, []string{r, entryKey(1, "d"), d, entryKey(2, "f"), f}},
		{"/f", api.Spot{Dir: 1, Name: "f", Ino: 4, Node: file(7)}, []string{r, entryKey(1, "f"), f}},
		{"/x", api.Spot{Dir: 1, Name: "x"}, []string{r, entryKey(1, "x")}},
		{"/d/x", api.Spot{Dir: 2, Name: "x"}, []string{r, entryKey(1, "d"), d, entryKey(2, "x")}},
		{"/d/lost", api.Spot{Dir: 2, Name: "lost"}, []string{r, entryKey(1, "d"), d, entryKey(2, "lost"), inodeKey(9)}},
		{"/d/odd", api.Spot{Dir: 2, Name: "odd"}, []string{r, entryKey(1, "d"), d, entryKey(2, "odd"), inodeKey(5)}},
		{"/d/bad", api.Spot{Dir: 2, Name: "bad"}, []string{r, entryKey(1, "d"), d, entryKey(2, "bad")}},
		{"/d/e/up", api.Spot{Dir: 3, Name: "up", Ino: 1, Node: node.Root()}, []string{r, entryKey(1, "d"), d, entryKey(2, "e"), e, entryKey(3, "up")}},
		{"/d/e/up/f", api.Spot{Dir: 1, Name: "f", Ino: 4, Node: file(7)}, []string{r, entryKey(1, "d"), d, entryKey(2, "e"), e, entryKey(3, "up"), entryKey(1, "f"), f}},
	} {
		v := small()
		was := v.Writes()
		if s, err := Find(v, c.path); s != c.want || err != api.OK {
			t.Errorf("Find(%q): %v, %v", c.path, s, err)
		}
		noted(t, v, c.read...)
		wrote(t, v, was...)
		ino, x, err := Lead(v, c.path)
		if c.want.Ino == 0 && (ino != 0 || x != (api.Inode{}) || err != api.ErrNone) || c.want.Ino != 0 && (ino != c.want.Ino || x != c.want.Node || err != api.OK) {
			t.Errorf("Lead(%q): %d, %v, %v", c.path, ino, x, err)
		}
		noted(t, v, c.read...)
	}
}

// P17.1 (R2): the errors of paths that lead nowhere: with them all else is zero.
func TestFindErrors(t *testing.T) {
	long := strings.Repeat("a", 33)
	for path, want := range map[string]api.Errno{
		"":                                api.ErrName,
		"/x/y":                            api.ErrNone,
		"/x/y/z":                          api.ErrNone,
		"/d/x/y":                          api.ErrNone,
		"/d/e/x/y/z":                      api.ErrNone,
		"/d/lost/x":                       api.ErrNone,
		"/d/odd/x":                        api.ErrNone,
		"/d/bad/x":                        api.ErrNone,
		"/d/lost/x/y":                     api.ErrNone,
		"/f/x":                            api.ErrNotDir,
		"/d/f/x":                          api.ErrNotDir,
		"/d/e/up/f/x":                     api.ErrNotDir,
		"/x/../y":                         api.ErrName,
		"/f/.":                            api.ErrName,
		"/f/x/":                           api.ErrName,
		"//":                              api.ErrName,
		"d":                               api.ErrInvalid,
		"d/" + long:                       api.ErrInvalid,
		"/" + long:                        api.ErrName,
		"/f/" + long:                      api.ErrName,
		"/d/e" + strings.Repeat("/x", 14): api.ErrNone,
		"/d/e" + strings.Repeat("/x", 15): api.ErrName,
		"/f" + strings.Repeat("/x", 127):  api.ErrName,
		strings.Repeat("/a", 100000):      api.ErrName,
		strings.Repeat("a", 255):          api.ErrInvalid,
		strings.Repeat("a", 256):          api.ErrName,
	} {
		v := small()
		if s, err := Find(v, path); s != (api.Spot{}) || err != want {
			t.Errorf("Find(%.40q): %v, %v, not %v", path, s, err, want)
		}
		if want == api.ErrName || want == api.ErrInvalid {
			noted(t, v)
		}
		if ino, x, err := Lead(v, path); ino != 0 || x != (api.Inode{}) || err != want {
			t.Errorf("Lead(%.40q): %d, %v, %v, not %v", path, ino, x, err, want)
		}
	}
}

// P17.1: the root has its own number, whatever its value; what is no directory has nothing standing in it.
func TestFindRoot(t *testing.T) {
	for _, c := range []struct {
		value string
		node  api.Inode
		want  api.Errno
	}{
		{written(api.Inode{Kind: api.Dir, Links: 9, Parent: 7}), api.Inode{Kind: api.Dir, Links: 9, Parent: 7}, api.OK},
		{written(file(5)), file(5), api.ErrNotDir},
		{"", api.Inode{}, api.ErrNotDir},
		{"odd", api.Inode{}, api.ErrNotDir},
		{written(file(5000)), api.Inode{}, api.ErrNotDir},
	} {
		v := over(inodeKey(1), c.value, entryKey(1, "a"), four(2), inodeKey(2), written(file(0)))
		if s, e := Find(v, "/"); s != (api.Spot{Ino: 1, Node: c.node}) || e != api.OK {
			t.Errorf("the root of %q: %v, %v", c.value, s, e)
		}
		if ino, x, e := Lead(v, "/"); ino != 1 || x != c.node || e != api.OK {
			t.Errorf("the root of %q: %d, %v, %v", c.value, ino, x, e)
		}
		noted(t, v, inodeKey(1))
		if _, e := Find(v, "/a"); e != c.want {
			t.Errorf("in the root of %q: %v", c.value, e)
		}
		if _, e := Find(v, "/a/b"); e != api.ErrNotDir {
			t.Errorf("deeper in the root of %q: %v", c.value, e)
		}
		if _, _, e := Lead(v, "/a"); e != c.want {
			t.Errorf("in the root of %q: %v", c.value, e)
		}
	}
}

// P17.1: a path of as many names as there may be, and of as many bytes.
func TestFindDeep(t *testing.T) {
	for _, name := range []string{"a", strings.Repeat("n", 14), strings.Repeat("\xff", 14)} {
		v := over()
		path := ""
		for i := range uint32(15) {
			Hang(v, i+1, name, i+2)
			Save(v, i+2, dir(i+1))
			path += "/" + name
			if s, e := Find(v, path); s != (api.Spot{Dir: i + 1, Name: name, Ino: i + 2, Node: dir(i + 1)}) || e != api.OK {
				t.Errorf("%d deep: %v, %v", i+1, s, e)
			}
		}
		if s, e := Find(v, path+"/z"); s != (api.Spot{Dir: 16, Name: "z"}) || e != api.OK {
			t.Error(s, e)
		}
		if _, e := Find(v, path+"/z/z"); e != api.ErrName {
			t.Error(e)
		}
	}
	v := over()
	wide := strings.Repeat("w", 31)
	for i := range uint32(7) {
		Hang(v, i+1, wide, i+2)
		Save(v, i+2, dir(i+1))
	}
	path := strings.Repeat("/"+wide, 7) + "/" + strings.Repeat("w", 30)
	if s, e := Find(v, path); len(path) != 255 || s != (api.Spot{Dir: 8, Name: strings.Repeat("w", 30)}) || e != api.OK {
		t.Error(len(path), s, e)
	}
	if _, e := Find(v, path+"w"); e != api.ErrName {
		t.Error(e)
	}
}

// P17.1: an entry of any number, with an inode of it: it is that one which is found.
func TestFindNumbers(t *testing.T) {
	for _, ino := range numbers()[1:] {
		v := over(entryKey(1, "a"), four(ino), inodeKey(ino), written(dir(ino)), entryKey(ino, "b"), four(ino))
		if s, e := Find(v, "/a"); s != (api.Spot{Dir: 1, Name: "a", Ino: ino, Node: dir(ino)}) || e != api.OK {
			t.Error(ino, s, e)
		}
		if s, e := Find(v, "/a/b"); ino != 1 && (s != api.Spot{Dir: ino, Name: "b", Ino: ino, Node: dir(ino)}) || e != api.OK {
			t.Error(ino, s, e)
		}
	}
}

// P17.1: entries that lead round are gone as far as the path goes.
func TestFindRound(t *testing.T) {
	v := over()
	Hang(v, 1, "a", 1)
	for n := 1; n <= 16; n++ {
		if s, e := Find(v, strings.Repeat("/a", n)); s != (api.Spot{Dir: 1, Name: "a", Ino: 1, Node: node.Root()}) || e != api.OK {
			t.Error(n, s, e)
		}
	}
}

// P17.2: what is hung is found, under its name, where it was hung, until it is unhung; so in the base, too.
func TestHungIsFound(t *testing.T) {
	for _, in := range numbers() {
		v := over()
		l := named()
		for i, name := range l {
			if n, ok := Child(v, in, name); n != 0 || ok {
				t.Errorf("%d, %q: %d ahead of being hung", in, name, n)
			}
			Hang(v, in, name, uint32(i)+2)
			Hang(v, in+1, name, 999)
			for j, other := range l[:i+1] {
				if n, ok := Child(v, in, other); n != uint32(j)+2 || !ok {
					t.Errorf("%d, %q: %d, %v", in, other, n, ok)
				}
			}
			if !slices.Equal(List(v, in), l[:i+1]) {
				t.Errorf("%d: %q", in, List(v, in))
			}
		}
		for i, name := range l {
			Unhang(v, in, name)
			if n, ok := Child(v, in, name); n != 0 || ok {
				t.Errorf("%d, %q: %d behind being unhung", in, name, n)
			}
			if !slices.Equal(List(v, in), l[i+1:]) || !slices.Equal(List(v, in+1), l) {
				t.Errorf("%d: %q", in, List(v, in))
			}
		}
	}
}
