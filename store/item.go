package store

import (
	"maps"
	"math"
	"slices"

	"flint/api"
	"flint/place"
	"flint/ring"
	"flint/tree"
)

// item is one that is there, and whether it counts.
type item struct {
	api.Found
	counts bool
}

// sector is where it stands.
func (x *item) sector() int {
	sector, _, _ := place.Parts(x.At)
	return sector
}

// pair is what it says of its key.
func (x *item) pair() api.Pair {
	return api.Pair{Key: x.Item.Key, Value: x.Item.Value, Gone: x.Item.Gone}
}

// numberAbove is one above all numbers that were found; of the greatest one that there can be: that.
func numberAbove(found []api.Found) uint64 {
	var greatest uint64
	for _, f := range found {
		greatest = max(greatest, f.Item.Seq, f.Item.Ver)
	}
	if greatest == math.MaxUint64 {
		return greatest
	}
	return greatest + 1
}

// itemsOf are all that were found, and each key's.
func itemsOf(found []api.Found) ([]*item, map[string]*item) {
	var items []*item
	for i, counts := range ring.Count(found) {
		items = append(items, &item{Found: found[i], counts: counts})
	}
	newest := map[string]*item{}
	for _, i := range ring.Newest(found) {
		newest[items[i].Item.Key] = items[i]
	}
	return items, newest
}

// treeOf is a tree of all keys that are there.
func treeOf(newest map[string]*item) *tree.Tree {
	t := tree.New()
	// How high the tree is hangs on the order in which keys are set, and the map has none.
	for _, key := range slices.Sorted(maps.Keys(newest)) {
		t = with(t, newest[key].pair())
	}
	return t
}

// needed are the items that are needed, in the order in which they stand.
func (s *Store) needed() []*item {
	twice := s.twice()
	var l []*item
	for key, x := range s.newest {
		// What tells that a key is gone is needed as long as something else would tell that it is there.
		if _, ok := twice[key]; ok || !x.Item.Gone {
			l = append(l, x)
		}
	}
	slices.SortFunc(l, func(a, b *item) int { return place.Compare(a.At, b.At) })
	return l
}

// twice are the keys of which an item that counts stands in another sector than the key's own.
func (s *Store) twice() map[string]struct{} {
	keys := map[string]struct{}{}
	for _, x := range s.items {
		if x.counts && x.sector() != s.newest[x.Item.Key].sector() {
			keys[x.Item.Key] = struct{}{}
		}
	}
	return keys
}

// drop takes away those items that go.
func (s *Store) drop(goes func(*item) bool) {
	s.items = slices.DeleteFunc(s.items, goes)
	maps.DeleteFunc(s.newest, func(_ string, x *item) bool { return goes(x) })
}
