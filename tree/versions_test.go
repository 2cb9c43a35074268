package tree

import (
	"fmt"
	"maps"
	"sync"
	"testing"
)

// version is a tree, and what it has to hold.
type version struct {
	tree  *Tree
	model map[string]string
}

// with is the version that is made of one by setting or cutting a key.
func (v version) with(set bool, key, value string) version {
	model := maps.Clone(v.model)
	if model == nil {
		model = map[string]string{}
	}
	if set {
		model[key] = value
		return version{v.tree.Set(key, value), model}
	}
	delete(model, key)
	return version{v.tree.Cut(key), model}
}

// few are keys, some of which stand in a tree.
func few(n int) []string {
	var l []string
	for i := range n {
		l = append(l, fmt.Sprintf("k%03d", i))
	}
	return l
}

// P10.2: each version of a row stays as it was, whatever is made of it.
func TestVersionsOfRow(t *testing.T) {
	next, keys := chance(5), few(60)
	all := []version{{}}
	for step := range 800 {
		v := all[len(all)-1]
		all = append(all, v.with(next(5) > step/100%2*2, keys[next(len(keys))], fmt.Sprint(step)))
	}
	for _, v := range all {
		held(t, v.tree, v.model, keys)
	}
	for i := 0; i < len(all); i += 100 {
		ranged(t, all[i].tree, all[i].model, keys)
	}
}

// P10.2: of any version others can be made, side by side.
func TestVersionsOfAny(t *testing.T) {
	next, keys := chance(6), few(25)
	all := []version{{}, {tree: New()}}
	for step := range 1500 {
		v := all[next(len(all))]
		all = append(all, v.with(next(3) > 0, keys[next(len(keys))], fmt.Sprint(step)))
	}
	for _, v := range all {
		held(t, v.tree, v.model, keys)
	}
}

// P10.2: of one version, every key set, and every key cut, one after the other.
func TestVersionsOfOne(t *testing.T) {
	for n := range 34 {
		keys := few(2*n + 1)
		v := version{}
		for i := range n {
			v = v.with(true, keys[2*i+1], "old")
		}
		for _, key := range keys {
			set, cut := v.with(true, key, "new"), v.with(false, key, "")
			held(t, set.tree, set.model, keys)
			held(t, cut.tree, cut.model, keys)
			held(t, v.tree, v.model, keys)
		}
	}
}

// below puts the nodes from one on downwards into a set.
func below(n *node, set map[*node]int) {
	if n == nil {
		return
	}
	set[n] = 1
	below(n.left, set)
	below(n.right, set)
}

// P10.2: a version and what is made of it share what is the same: few nodes are new.
func TestShared(t *testing.T) {
	keys := few(1000)
	x := New()
	for i := 1; i < len(keys); i += 2 {
		x = x.Set(keys[i], "old")
	}
	old := map[*node]int{}
	below(x.root, old)
	for _, key := range keys {
		for _, y := range []*Tree{x.Set(key, "new"), x.Cut(key)} {
			all, fresh := map[*node]int{}, 0
			below(y.root, all)
			for n := range all {
				if old[n] == 0 {
					fresh++
				}
			}
			if fresh > 3*x.High() {
				t.Errorf("%q: %d new nodes of %d", key, fresh, len(all))
			}
		}
	}
}

// P10.2: as no version is written to, many may be asked, and others made of them, at the same time.
func TestAtTheSameTime(t *testing.T) {
	keys := few(50)
	v := version{}
	for _, key := range keys[:25] {
		v = v.with(true, key, "old")
	}
	var all sync.WaitGroup
	made := make([]version, 8)
	for i := range made {
		all.Go(func() {
			own := v
			for step, key := range keys {
				own = own.with((step+i)%3 > 0, key, fmt.Sprint(i))
				v.tree.Range("", "z")
			}
			made[i] = own
		})
	}
	all.Wait()
	held(t, v.tree, v.model, keys)
	for _, own := range made {
		held(t, own.tree, own.model, keys)
	}
}
