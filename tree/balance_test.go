package tree

import (
	"fmt"
	"math/bits"
	"slices"
	"testing"

	"flint/api"
)

// walked fails the test, if nodes don't say how many and how high they are, or aren't in order, or a node's sides differ by more than 1 in height; it answers how many and how high, and the last key, after one that stands ahead of them.
func walked(t *testing.T, n *node, ahead *string) (int, int, *string) {
	t.Helper()
	if n == nil {
		return 0, 0, ahead
	}
	left, low, last := walked(t, n.left, ahead)
	if last != nil && *last >= n.pair.Key {
		t.Fatalf("%s stands ahead of %s", short(*last), short(n.pair.Key))
	}
	right, high, last := walked(t, n.right, &n.pair.Key)
	count, height := left+1+right, max(low, high)+1
	if n.count != count || n.high != height || n.pair.Gone {
		t.Fatalf("at %s: %d keys, %d high, not %d and %d", short(n.pair.Key), n.count, n.high, count, height)
	}
	if low > high+1 || high > low+1 {
		t.Fatalf("at %s: sides of %d and %d", short(n.pair.Key), low, high)
	}
	return count, height, last
}

// shaped fails the test, if a tree isn't as high as it says, or isn't balanced, or has another number of keys than it says.
func shaped(t *testing.T, x *Tree) {
	t.Helper()
	if count, height, _ := walked(t, x.top(), nil); count != x.Len() || height != x.High() {
		t.Fatalf("Len %d, High %d, not %d and %d", x.Len(), x.High(), count, height)
	}
	balanced(t, x)
}

// balanced fails the test, if a tree is higher than it may be, or lower than any can be.
func balanced(t *testing.T, x *Tree) {
	t.Helper()
	n, high := x.Len(), x.High()
	if high < bits.Len(uint(n)) {
		t.Fatalf("%d high, with %d keys", high, n)
	}
	// high <= 2 * log2(n+1) + 2, without a float.
	if high > 2 && uint64(1)<<(high-2) > uint64(n+1)*uint64(n+1) {
		t.Fatalf("%d high, with %d keys", high, n)
	}
}

// P10.3 (and P10.1): how high trees of few keys are.
func TestHigh(t *testing.T) {
	x := New()
	for i, want := range []int{0, 1, 2, 2} {
		if x.High() != want {
			t.Errorf("of %d keys: %d", i, x.High())
		}
		x = x.Set(string([]byte{byte('a' + i)}), "")
	}
	if x = New().Set("b", "").Set("a", ""); x.High() != 2 {
		t.Error(x.High())
	}
	if x = x.Set("c", ""); x.High() != 2 {
		t.Error(x.High())
	}
	if x = x.Cut("b"); x.High() != 2 || x.Len() != 2 {
		t.Error(x.High(), x.Len())
	}
	if x = x.Cut("a"); x.High() != 1 {
		t.Error(x.High())
	}
}

// orders calls a function with all orders of the numbers from 0 up to n.
func orders(n int, each func(order []int)) {
	order := make([]int, n)
	for i := range order {
		order[i] = i
	}
	var from func(k int)
	from = func(k int) {
		if k == n {
			each(order)
		}
		for i := k; i < n; i++ {
			order[k], order[i] = order[i], order[k]
			from(k + 1)
			order[k], order[i] = order[i], order[k]
		}
	}
	from(0)
}

// P10.3: keys set in all orders there are, and then cut in all orders of some of them.
func TestAllOrders(t *testing.T) {
	keys := few(8)
	for n := range 8 {
		orders(n, func(order []int) {
			v := version{}
			for _, i := range order {
				v = v.with(true, keys[i], keys[i])
				shaped(t, v.tree)
			}
			held(t, v.tree, v.model, keys)
			for i := range n {
				cut := v.with(false, keys[i], "").with(false, keys[(i+3)%n], "").with(false, keys[(i+n-1)%n], "")
				held(t, cut.tree, cut.model, keys)
			}
		})
	}
}

// rows are orders in which keys often come.
func rows(n int) map[string][]int {
	all, next := map[string][]int{}, chance(9)
	for i := range n {
		end := i / 2
		if i%2 == 1 {
			end = n - 1 - i/2
		}
		all["rising"] = append(all["rising"], i)
		all["falling"] = append(all["falling"], n-1-i)
		all["from both ends"] = append(all["from both ends"], end)
		all["by steps"] = append(all["by steps"], i*7%n)
		all["any"] = slices.Insert(all["any"], next(i+1), i)
	}
	all["from the middle"] = slices.Clone(all["from both ends"])
	slices.Reverse(all["from the middle"])
	return all
}

// P10.3: many keys that are set, and cut, in each of these orders, leave each tree on the way balanced.
func TestManyInOrder(t *testing.T) {
	const n = 600
	keys := few(n)
	for up, sets := range rows(n) {
		x := New()
		for _, i := range sets {
			x = x.Set(keys[i], "v")
			shaped(t, x)
		}
		for down, cuts := range rows(n) {
			y := x
			for step, i := range cuts {
				y = y.Cut(keys[i])
				if step%5 == 0 || n-step < 100 {
					shaped(t, y)
				}
			}
			if x.Len() != n || y.Len() != 0 {
				t.Errorf("set %s, cut %s: %d keys, and then %d", up, down, x.Len(), y.Len())
			}
		}
	}
}

// P10.3: of very many keys, too, that come and go in turns.
func TestVeryMany(t *testing.T) {
	key := func(i int) string { return fmt.Sprintf("%07d", i) }
	x := New()
	for i := range 1 << 17 {
		x = x.Set(key(i), "")
		if i%5 == 4 {
			x = x.Cut(key(i / 5 * 3))
		}
		if i&(i-1) == 0 || i%20000 == 0 {
			shaped(t, x)
		}
	}
	shaped(t, x)
	for i := range 1 << 17 {
		x = x.Cut(key(1<<17 - 1 - i))
		if i%20000 == 0 {
			shaped(t, x)
		}
	}
	if x.Len() != 0 || x.High() != 0 {
		t.Error(x.Len(), x.High())
	}
}

// sparse are nodes of this height with as few keys as a node may have, the lower side always on the left, or on the right; keys are counted on.
func sparse(high int, left bool, count *int) *node {
	if high <= 0 {
		return nil
	}
	ahead, behind := high-1, high-2
	if left {
		ahead, behind = behind, ahead
	}
	n := sparse(ahead, left, count)
	p := api.Pair{Key: fmt.Sprintf("k%03d", *count)}
	*count++
	return join(n, p, sparse(behind, left, count))
}

// P10.3: trees that are as high as may be stay balanced, whichever key is cut or set.
func TestSparse(t *testing.T) {
	for high := range 10 {
		for _, left := range []bool{false, true} {
			count := 0
			x := &Tree{sparse(high, left, &count)}
			shaped(t, x)
			if x.High() != high {
				t.Fatalf("%d high, not %d", x.High(), high)
			}
			for _, p := range x.Range("", "z") {
				shaped(t, x.Cut(p.Key))
				y := x.Set(p.Key+"+", "").Set(p.Key+"++", "").Set(p.Key+",", "")
				shaped(t, y)
				emptied(t, y, func(n int) int { return 0 })
				emptied(t, y, func(n int) int { return n - 1 })
				emptied(t, y, func(n int) int { return n / 2 })
			}
		}
	}
}

// P10.3: of all cuts, time after time the one that leaves the highest tree.
func TestHighestCut(t *testing.T) {
	const n = 90
	keys := few(n)
	for _, late := range []bool{false, true} {
		for up, sets := range rows(n) {
			x := New()
			for _, i := range sets {
				x = x.Set(keys[i], "")
			}
			for range n {
				var highest *Tree
				for _, p := range x.Range("", "z") {
					y := x.Cut(p.Key)
					if highest == nil || y.High() > highest.High() || late && y.High() == highest.High() {
						highest = y
					}
				}
				x = highest
				balanced(t, x)
			}
			if x.Len() != 0 || x.High() != 0 {
				t.Errorf("set %s: %d keys, %d high", up, x.Len(), x.High())
			}
		}
	}
}

// emptied fails the test, if a tree doesn't stay balanced up to its last key, as the key of a number is cut time after time.
func emptied(t *testing.T, x *Tree, which func(n int) int) {
	t.Helper()
	for n := x.Len(); n > 0; n-- {
		p, _ := x.At(which(n))
		x = x.Cut(p.Key)
		shaped(t, x)
	}
	if x.Len() != 0 || x.High() != 0 {
		t.Error(x.Len(), x.High())
	}
}
