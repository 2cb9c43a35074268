package walk

import (
	"slices"
	"strings"
	"testing"

	"flint/api"
	"flint/node"
	"flint/view"
)

// chance answers numbers that look like chance, the same ones each time.
func chance(x uint32) func(n int) int {
	return func(n int) int {
		x = x*1664525 + 1013904223
		return int(x>>8) % n
	}
}

// entry is where something is hung.
type entry struct {
	dir  uint32
	name string
}

// model is what the chapter's words say of inodes and entries, without keys.
type model struct {
	inodes  map[uint32]api.Inode
	entries map[entry]uint32
}

// load is an inode, if it is there and may be; the root is there without being saved.
func (m model) load(ino uint32) (api.Inode, bool) {
	x, ok := m.inodes[ino]
	switch {
	case !ok && ino == 1:
		return node.Root(), true
	case !ok || !node.May(x):
		return api.Inode{}, false
	}
	return x, true
}

// list are all names that are hung in a directory, rising.
func (m model) list(dir uint32) []string {
	var l []string
	for e := range m.entries {
		if e.dir == dir {
			l = append(l, e.name)
		}
	}
	slices.Sort(l)
	return l
}

// find is what names lead to from a spot on.
func (m model) find(s api.Spot, l []string) (api.Spot, api.Errno) {
	if len(l) == 0 {
		return s, api.OK
	}
	if s.Ino == 0 {
		return api.Spot{}, api.ErrNone
	}
	if s.Node.Kind != api.Dir {
		return api.Spot{}, api.ErrNotDir
	}
	next := api.Spot{Dir: s.Ino, Name: l[0]}
	if ino, ok := m.entries[entry{s.Ino, l[0]}]; ok {
		if x, there := m.load(ino); there {
			next.Ino, next.Node = ino, x
		}
	}
	return m.find(next, l[1:])
}

// few are the names that rows are made of.
var few = []string{"a", "b", "ab", strings.Repeat("n", 32)}

// acts does one of the calls that write, and tells whether there was room for it.
func (m model) acts(t *testing.T, next func(n int) int, v *view.View) {
	t.Helper()
	ino, e := uint32(next(9)+1), entry{uint32(next(8) + 1), few[next(len(few))]}
	x := []api.Inode{dir(e.dir), dir(1), file(uint32(next(5000))), {Kind: uint8(next(4)), Links: uint32(next(4))}}[next(4)]
	room := len(v.Writes()) < api.MaxWrites
	done := true
	switch next(6) {
	case 0, 1:
		if done = Save(v, ino, x); done {
			m.inodes[ino] = x
		}
	case 2:
		if done = Drop(v, ino); done {
			delete(m.inodes, ino)
		}
	case 3, 4:
		if done = Hang(v, e.dir, e.name, ino); done {
			m.entries[e] = ino
		}
	case 5:
		if done = Unhang(v, e.dir, e.name); done {
			delete(m.entries, e)
		}
	}
	if room && !done {
		t.Fatal("room isn't taken")
	}
}

// held fails the test, if a view doesn't answer what the model does.
func (m model) held(t *testing.T, v *view.View, paths []string) {
	t.Helper()
	for ino := range uint32(11) {
		want, there := m.load(ino)
		if x, ok := Load(v, ino); x != want || ok != there {
			t.Fatalf("Load(%d): %v, %v, not %v, %v", ino, x, ok, want, there)
		}
		if l := List(v, ino); !slices.Equal(l, m.list(ino)) {
			t.Fatalf("List(%d): %q, not %q", ino, l, m.list(ino))
		}
		for _, name := range few {
			want, there := m.entries[entry{ino, name}]
			if n, ok := Child(v, ino, name); n != want || ok != there {
				t.Fatalf("Child(%d, %q): %d, %v, not %d, %v", ino, name, n, ok, want, there)
			}
		}
	}
	for _, path := range paths {
		var l []string
		if path != "/" {
			l = strings.Split(path[1:], "/")
		}
		x, _ := m.load(1)
		want, err := m.find(api.Spot{Ino: 1, Node: x}, l)
		if s, e := Find(v, path); s != want || e != err {
			t.Fatalf("Find(%q): %v, %v, not %v, %v", path, s, e, want, err)
		}
		if err == api.OK && want.Ino == 0 {
			err = api.ErrNone
		}
		if ino, x, e := Lead(v, path); ino != want.Ino || x != want.Node || e != err {
			t.Fatalf("Lead(%q): %d, %v, %v", path, ino, x, e)
		}
	}
}

// somePaths are paths of the names that rows are made of.
func somePaths(next func(n int) int) []string {
	l := []string{"/"}
	for range 40 {
		path := ""
		for range next(5) + 1 {
			path += "/" + few[next(len(few))]
		}
		l = append(l, path)
	}
	return l
}

// P17.1, P17.2: long rows of all calls, in views with their writes, over bases that were made so, too.
func TestRows(t *testing.T) {
	found, missed, refused := 0, 0, 0
	for seed := range 60 {
		next := chance(uint32(seed))
		m := model{map[uint32]api.Inode{}, map[entry]uint32{}}
		v := over()
		for step := range 120 {
			m.acts(t, next, v)
			if step%6 != 0 {
				continue
			}
			paths := somePaths(next)
			m.held(t, v, paths)
			for _, path := range paths {
				switch s, e := Find(v, path); {
				case e == api.ErrNotDir:
					refused++
				case s.Ino != 0:
					found++
				default:
					missed++
				}
			}
			if step%30 == 0 {
				v = based(v)
				m.held(t, v, paths)
			}
		}
	}
	if found < 1000 || missed < 1000 || refused < 1000 {
		t.Errorf("only %d found, %d missed, %d refused", found, missed, refused)
	}
}

// based is a new view over all that a view shows.
func based(v *view.View) *view.View {
	var l []string
	for _, p := range v.Range("", "Z") {
		l = append(l, p.Key, p.Value)
	}
	return over(l...)
}

// P17.1: trees of any texts as keys and values, among them such as might be inodes and entries: no call but answers by what stands there.
func TestAnyBase(t *testing.T) {
	for seed := range 400 {
		next := chance(uint32(seed))
		base := map[string]string{}
		var l []string
		for range next(30) {
			key := []string{"I", "E", "D", "I\x00", "E\x00"}[next(5)] + four(uint32(next(3)))[next(2):] + strings.Repeat("a", next(3)*17)
			value := []string{"", four(uint32(next(4))), written(dir(uint32(next(3)))), written(file(uint32(next(9000)))), "odd"}[next(5)]
			l = append(l, key, value)
			base[key] = value
		}
		v := over(l...)
		for ino := range uint32(4) {
			want, there := node.Get(base[inodeKey(ino)])
			if _, ok := base[inodeKey(ino)]; !ok && ino == 1 {
				want, there = node.Root(), true
			}
			if x, ok := Load(v, ino); x != want || ok != there {
				t.Fatalf("Load(%d): %v, %v, not %v, %v", ino, x, ok, want, there)
			}
			var names []string
			for key := range base {
				if strings.HasPrefix(key, "E"+four(ino)) && len(key) > 5 && len(key) <= 37 {
					names = append(names, key[5:])
				}
			}
			slices.Sort(names)
			if got := List(v, ino); !slices.Equal(got, names) {
				t.Fatalf("List(%d): %q, not %q", ino, got, names)
			}
			for _, name := range names {
				value := base["E"+four(ino)+name]
				if n, ok := Child(v, ino, name); ok != (len(value) == 4) || ok && four(n) != value || !ok && n != 0 {
					t.Fatalf("Child(%d, %q): %d, %v of %q", ino, name, n, ok, value)
				}
			}
		}
	}
}
