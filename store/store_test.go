package store

import (
	"slices"
	"strconv"
	"strings"
	"testing"

	"flint/api"
	"flint/nor"
	"flint/rec"
	"flint/ring"
	"flint/scan"
	"flint/shelf"
	"flint/tree"
)

// small is the least geometry.
var small = api.Geometry{Sectors: 6, Size: 512}

// behind is a text that stands behind all keys that tests put.
const behind = "\xff\xff"

// at is the place of a sector and an offset.
func at(sector, offset int) api.Place { return complex(float64(sector), float64(offset)) }

// there is a pair of a key that is there.
func there(key, value string) api.Pair { return api.Pair{Key: key, Value: value} }

// gone is a pair of a key that is gone.
func gone(key string) api.Pair { return api.Pair{Key: key, Gone: true} }

// long is a pair of a key with the longest value.
func long(key string) api.Pair { return there(key, strings.Repeat("v", api.MaxValue)) }

// good fails the test at an error.
func good(t *testing.T, err api.Errno) {
	t.Helper()
	if err != api.OK {
		t.Fatal(err)
	}
}

// device is a new device.
func device(t *testing.T, g api.Geometry) *nor.Device {
	t.Helper()
	d, err := nor.New(g)
	good(t, err)
	return d
}

// opened is the store on a device.
func opened(t *testing.T, d *nor.Device) *Store {
	t.Helper()
	s, err := Open(d)
	if s == nil || err != api.OK {
		t.Fatalf("Open: %v", err)
	}
	return s
}

// fresh is a new device of the least geometry, and the store on it.
func fresh(t *testing.T) (*nor.Device, *Store) {
	t.Helper()
	d := device(t, small)
	return d, opened(t, d)
}

// pairs are all keys that are there, with their values.
func pairs(s *Store) []api.Pair { return s.Tree().Range("", behind) }

// holds fails the test, if a store, and a scan of its device, don't tell just these keys and values, that rise.
func holds(t *testing.T, s *Store, d *nor.Device, want ...api.Pair) {
	t.Helper()
	if got := pairs(s); !slices.Equal(got, want) || s.Tree().Len() != len(want) {
		t.Fatalf("the tree has %v, not %v", got, want)
	}
	if got := scanned(t, d); !slices.Equal(got, want) {
		t.Fatalf("a scan finds %v, not %v", got, want)
	}
}

// found are all items that a scan finds.
func found(t *testing.T, d *nor.Device) []api.Found {
	t.Helper()
	l, err := scan.All(d)
	good(t, err)
	var found []api.Found
	for _, x := range l {
		found = append(found, x.Found...)
	}
	return found
}

// scanned are the keys and values that a scan of a device tells.
func scanned(t *testing.T, d *nor.Device) []api.Pair {
	t.Helper()
	l := found(t, d)
	var have []api.Pair
	for _, n := range ring.Newest(l) {
		if x := l[n].Item; !x.Gone {
			have = append(have, there(x.Key, x.Value))
		}
	}
	slices.SortFunc(have, func(a, b api.Pair) int { return strings.Compare(a.Key, b.Key) })
	return have
}

// raw programs an item at a place, in a sector that has a head.
func raw(t *testing.T, d *nor.Device, p api.Place, x api.Item) {
	t.Helper()
	w, err := ring.Put(x)
	good(t, err)
	f, err := rec.Put(w)
	good(t, err)
	good(t, d.Program(p, f))
}

// P13.1: what was put is there, in a store that is opened later, too; what was put as gone isn't.
func TestPut(t *testing.T) {
	d, s := fresh(t)
	holds(t, s, d)
	good(t, s.Put([]api.Pair{there("b", "2"), there("a", "1"), there("", "")}[:2]))
	holds(t, s, d, there("a", "1"), there("b", "2"))
	good(t, s.Put([]api.Pair{there("c", ""), gone("a"), there("b", "3"), gone("nobody")}))
	holds(t, s, d, there("b", "3"), there("c", ""))
	u := opened(t, d)
	holds(t, u, d, there("b", "3"), there("c", ""))
	good(t, u.Put([]api.Pair{there("a", "4"), gone("c")}))
	holds(t, u, d, there("a", "4"), there("b", "3"))
	holds(t, opened(t, d), d, there("a", "4"), there("b", "3"))
}

// P13.1: rings stand as the chapter says: one behind the other, of one number, that is their version, too; each Put takes one more, above all that were found.
func TestRingsThatStand(t *testing.T) {
	d, s := fresh(t)
	good(t, s.Put([]api.Pair{there("a", "1"), there("b", "22")}))
	good(t, s.Put([]api.Pair{gone("a")}))
	want := []api.Found{
		{At: at(0, 8), Size: 34, Item: api.Item{Seq: 1, Ver: 1, Count: 2, Next: at(0, 42), Key: "a", Value: "1"}},
		{At: at(0, 42), Size: 35, Item: api.Item{Seq: 1, Ver: 1, Index: 1, Count: 2, Next: at(0, 8), Key: "b", Value: "22"}},
		{At: at(0, 77), Size: 33, Item: api.Item{Seq: 2, Ver: 2, Count: 1, Next: at(0, 77), Gone: true, Key: "a"}},
	}
	if got := found(t, d); !slices.Equal(got, want) {
		t.Fatalf("%+v", got)
	}
	u := opened(t, d)
	good(t, u.Put([]api.Pair{there("c", "")}))
	if got := found(t, d)[3]; got.At != at(1, 8) || got.Item.Seq != 3 || got.Item.Ver != 3 {
		t.Errorf("%+v", got)
	}
	// A version that was moved may be far below its ring's number, or above it; both count.
	for _, x := range []api.Item{{Seq: 50, Ver: 70}, {Seq: 90, Ver: 20}} {
		d := device(t, small)
		good(t, opened(t, d).Put([]api.Pair{there("a", "")}))
		x.Count, x.Next, x.Key = 1, at(0, 41), "k"
		raw(t, d, at(0, 41), x)
		good(t, opened(t, d).Put([]api.Pair{there("b", "")}))
		if got := found(t, d)[2].Item; got.Seq != max(x.Seq, x.Ver)+1 || got.Ver != got.Seq {
			t.Errorf("behind %+v: %+v", x, got)
		}
	}
}

// P13.1: a number is taken by a ring that isn't written to the end, too, so that none makes it whole; and by none that is refused.
func TestNumbers(t *testing.T) {
	d, s := fresh(t)
	good(t, s.Put([]api.Pair{long("a"), long("b"), long("c"), long("d")}))
	for _, l := range [][]api.Pair{nil, {there("", "")}} {
		s.Put(l)
	}
	d.Spoil(1)
	if err := s.Put([]api.Pair{long("e"), long("f")}); err != api.ErrBad {
		t.Fatal(err)
	}
	if got := found(t, d); len(got) != 5 || got[4].Item.Key != "e" || got[4].Item.Seq != 2 {
		t.Fatalf("%+v", got)
	}
	holds(t, s, d, long("a"), long("b"), long("c"), long("d"))
	good(t, s.Put([]api.Pair{there("g", "")}))
	if got := found(t, d); len(got) != 6 || got[5].Item.Seq != 3 || got[5].At != at(2, 8) {
		t.Errorf("%+v", got)
	}
	holds(t, s, d, long("a"), long("b"), long("c"), long("d"), there("g", ""))
	holds(t, opened(t, d), d, long("a"), long("b"), long("c"), long("d"), there("g", ""))
}

// many are so many pairs of other keys.
func many(n int) []api.Pair {
	var l []api.Pair
	for i := range n {
		l = append(l, there("k"+strconv.Itoa(i+1000), ""))
	}
	return l
}

// P13.1: what may not be put is refused, and does no act; what is at a limit may be.
func TestWhatMayBePut(t *testing.T) {
	d, s := fresh(t)
	good(t, s.Put([]api.Pair{there("a", "1")}))
	acts := d.Acts()
	for i, l := range [][]api.Pair{
		nil, {},
		{there("", "1")}, {gone("")}, {there("b", "2"), there("", "1")},
		{there(strings.Repeat("k", 49), "")}, {gone(strings.Repeat("k", 49))},
		{there("b", strings.Repeat("v", 65))}, {there("b", "2"), there("c", strings.Repeat("v", 65))},
		{{Key: "a", Value: "1", Gone: true}},
		{there("b", "2"), there("b", "2")}, {there("b", "2"), there("c", "2"), gone("b")}, {gone("b"), gone("b")},
		many(256), append(many(255), there("a", "1")), append(many(255), there("k1000", "1")), many(3000),
	} {
		if err := s.Put(l); err != api.ErrArg {
			t.Errorf("%d: %v", i, err)
		}
	}
	if d.Acts() != acts {
		t.Errorf("%d acts", d.Acts()-acts)
	}
	holds(t, s, d, there("a", "1"))
	big := there(strings.Repeat("\x00", 48), strings.Repeat("\xff", 64))
	good(t, s.Put([]api.Pair{big}))
	good(t, s.Put([]api.Pair{gone(strings.Repeat("k", 48)), there("\xff", "")}))
	holds(t, s, d, big, there("a", "1"), there("\xff", ""))
	d = device(t, api.Geometry{Sectors: 64, Size: 4096})
	s = opened(t, d)
	good(t, s.Put(many(255)))
	holds(t, s, d, many(255)...)
}

// P13.1: a store that is gone does nothing any more; it is gone as soon as its device went off, on again or not. That it is comes ahead of what may not be put.
func TestGone(t *testing.T) {
	for _, fall := range []func(d *nor.Device, s *Store){
		func(d *nor.Device, s *Store) { d.Off() },
		func(d *nor.Device, s *Store) { d.Off(); d.On() },
		func(d *nor.Device, s *Store) { d.Cut(0, 3, 0); s.Put([]api.Pair{there("a", "2")}) },
		func(d *nor.Device, s *Store) { d.Cut(0, 0, 255); s.Collect(); d.On() },
	} {
		d, s := fresh(t)
		good(t, s.Put([]api.Pair{there("a", "1")}))
		if s.Gone() {
			t.Error("gone ahead of the fall")
		}
		fall(d, s)
		acts := d.Acts()
		for _, l := range [][]api.Pair{{there("b", "1")}, nil, {there("", "")}} {
			if err := s.Put(l); err != api.ErrOff {
				t.Error(err)
			}
		}
		if err := s.Collect(); err != api.ErrOff || !s.Gone() || d.Acts() != acts {
			t.Error(err, s.Gone(), d.Acts()-acts)
		}
		if got := pairs(s); !slices.Equal(got, []api.Pair{there("a", "1")}) {
			t.Error(got)
		}
		d.On()
		u := opened(t, d)
		if u.Gone() || !s.Gone() {
			t.Error("a store that is opened is gone, or one that was isn't any more")
		}
		holds(t, u, d, there("a", "1"))
	}
}

// P13.1: a nil store answers, and so does one on no device, or on one that is off.
func TestNone(t *testing.T) {
	var s *Store
	if s.Put([]api.Pair{there("a", "1")}) != api.ErrOff || s.Put(nil) != api.ErrOff || s.Collect() != api.ErrOff {
		t.Error("a nil store puts, or collects")
	}
	if s.Tree().Len() != 0 || s.Needed() != 0 || !s.Gone() {
		t.Error(s.Tree(), s.Needed(), s.Gone())
	}
	if s, err := Open(nil); s != nil || err != api.ErrOff {
		t.Error(s, err)
	}
	d := device(t, small)
	d.Off()
	if s, err := Open(d); s != nil || err != api.ErrOff {
		t.Error(s, err)
	}
	d.On()
	opened(t, d)
}

// P13.1: opening does no act, and two stores tell the same.
func TestOpenDoesNothing(t *testing.T) {
	d, s := fresh(t)
	good(t, s.Put([]api.Pair{there("b", "1"), there("a", "2"), gone("c")}))
	acts := d.Acts()
	high := opened(t, d).Tree().High()
	for range 20 {
		u := opened(t, d)
		holds(t, u, d, there("a", "2"), there("b", "1"))
		if u.Tree().High() != high {
			t.Error("trees of the same keys differ")
		}
	}
	if d.Acts() != acts {
		t.Errorf("%d acts", d.Acts()-acts)
	}
}

// P13.1: what was handed in isn't kept, nor changed; a tree that was answered stays.
func TestKeepsNothing(t *testing.T) {
	d, s := fresh(t)
	l := []api.Pair{there("b", "1"), there("a", "2")}
	good(t, s.Put(l))
	if !slices.Equal(l, []api.Pair{there("b", "1"), there("a", "2")}) {
		t.Error(l)
	}
	l[0], l[1] = there("x", "8"), gone("b")
	holds(t, s, d, there("a", "2"), there("b", "1"))
	first := s.Tree()
	good(t, s.Put([]api.Pair{gone("a"), there("b", "3"), there("c", "4")}))
	if got := first.Range("", behind); !slices.Equal(got, []api.Pair{there("a", "2"), there("b", "1")}) {
		t.Error(got)
	}
	holds(t, s, d, there("b", "3"), there("c", "4"))
}

// P13.2: the items that count are those that a scan says count: of rings that aren't whole the settled ones alone; the greatest version tells, then the greatest number.
func TestOpenOfWhatStands(t *testing.T) {
	d, s := fresh(t)
	good(t, s.Put([]api.Pair{there("a", "1")}))
	p := 42
	for _, x := range []struct {
		item    api.Item
		settled bool
	}{
		{api.Item{Seq: 5, Ver: 5, Count: 2, Next: at(3, 8), Key: "a", Value: "2"}, false},
		{api.Item{Seq: 6, Ver: 6, Count: 2, Next: at(3, 8), Key: "b", Value: "3"}, true},
		{api.Item{Seq: 7, Ver: 4, Count: 2, Next: at(3, 8), Key: "b", Value: "4"}, true},
		{api.Item{Seq: 9, Ver: 9, Count: 2, Next: at(3, 8), Key: "c", Value: "5"}, true},
		{api.Item{Seq: 8, Ver: 9, Count: 2, Next: at(3, 8), Key: "c", Value: "6"}, true},
		{api.Item{Seq: 2, Ver: 2, Count: 2, Next: at(3, 8), Gone: true, Key: "e"}, true},
		{api.Item{Seq: 1 << 40, Ver: 3, Count: 200, Next: at(3, 8), Key: "d"}, false},
	} {
		raw(t, d, at(0, p), x.item)
		if x.settled {
			good(t, d.Program(at(0, p), []byte{rec.Flag(api.Settled)}))
		}
		p += ring.Size(x.item.Key, x.item.Value)
	}
	u := opened(t, d)
	holds(t, u, d, there("a", "1"), there("b", "3"), there("c", "5"))
	good(t, u.Put([]api.Pair{there("e", "")}))
	if got := found(t, d); got[len(got)-1].Item.Seq != 1<<40+1 {
		t.Errorf("%+v", got)
	}
	holds(t, u, d, there("a", "1"), there("b", "3"), there("c", "5"), there("e", ""))
}

// P13.2: what is needed, the chapter's example: what tells that a key is gone is, as long as another item of the key stands in another sector.
func TestNeeded(t *testing.T) {
	d, s := fresh(t)
	steps := []struct {
		l    []api.Pair
		want int
	}{
		{[]api.Pair{there("a", "1")}, 34},
		{[]api.Pair{there("a", "22")}, 35},
		{[]api.Pair{gone("a")}, 0},
		{[]api.Pair{gone("a")}, 0},
		{[]api.Pair{gone("b")}, 0},
		{[]api.Pair{there("a", ""), there("b", "1")}, 33 + 34},
		{[]api.Pair{long("c"), long("d")}, 33 + 34 + 2*97},
		// The next ones stand in the second sector.
		{[]api.Pair{long("c")}, 33 + 34 + 97 + 97},
		{[]api.Pair{gone("c")}, 33 + 34 + 97 + 33},
		{[]api.Pair{gone("d")}, 33 + 34 + 33 + 33},
		{[]api.Pair{gone("e")}, 33 + 34 + 33 + 33},
		{[]api.Pair{there("d", "1")}, 33 + 34 + 33 + 34},
	}
	for i, x := range steps {
		good(t, s.Put(x.l))
		if got, again := s.Needed(), opened(t, d).Needed(); got != x.want || again != x.want {
			t.Fatalf("step %d: %d, and %d of a new store, not %d", i, got, again, x.want)
		}
	}
	// The first sector goes: nothing else is left of the key.
	good(t, s.Collect())
	if got := s.Needed(); got != 33+34+34 {
		t.Error(got)
	}
	holds(t, s, d, there("a", ""), there("b", "1"), there("d", "1"))
}

// P13.2: an item that doesn't count plays no part in what is needed.
func TestNeededOfWhatDoesntCount(t *testing.T) {
	d, s := fresh(t)
	good(t, s.Put([]api.Pair{there("a", "1")}))
	raw(t, d, at(0, 42), api.Item{Seq: 9, Ver: 9, Count: 2, Next: at(0, 42), Key: "b", Value: "1"})
	u := opened(t, d)
	good(t, u.Put([]api.Pair{gone("b")}))
	if got := u.Needed(); got != 34 {
		t.Error(got)
	}
	holds(t, u, d, there("a", "1"))
}

// P13.3, P13.5: capacity and bound, by the chapter's words.
func TestCapacityAndBound(t *testing.T) {
	for _, x := range []struct {
		g               api.Geometry
		capacity, bound int
	}{
		{small, 2 * 360, 49*(3*15+4) + 510},
		{api.Geometry{Sectors: 7, Size: 600}, 3 * 448, 57*(3*18+4) + 510},
		{api.Geometry{Sectors: 6, Size: 527}, 2 * 375, 49*(3*15+4) + 510},
		{api.Geometry{Sectors: 6, Size: 528}, 2 * 376, 49*(3*16+4) + 510},
		{api.Geometry{Sectors: 64, Size: 4096}, 60 * 3944, 513*(3*124+4) + 510},
		{api.Geometry{}, 0, 0},
		{api.Geometry{Sectors: 5, Size: 512}, 0, 0},
		{api.Geometry{Sectors: 65, Size: 512}, 0, 0},
		{api.Geometry{Sectors: 6, Size: 511}, 0, 0},
		{api.Geometry{Sectors: 6, Size: 4097}, 0, 0},
		{api.Geometry{Sectors: -6, Size: -512}, 0, 0},
		{api.Geometry{Sectors: 1 << 62, Size: 1 << 62}, 0, 0},
	} {
		if got := Capacity(x.g); got != x.capacity {
			t.Errorf("the capacity of %v: %d, not %d", x.g, got, x.capacity)
		}
		if got := Bound(x.g); got != x.bound {
			t.Errorf("the bound of %v: %d, not %d", x.g, got, x.bound)
		}
	}
}

// P13.3: prices are those of frames, whatever may be put.
func TestPrice(t *testing.T) {
	for i, x := range []struct {
		l    []api.Pair
		want int
	}{
		{nil, 0}, {[]api.Pair{}, 0},
		{[]api.Pair{there("k", "v")}, 34},
		{[]api.Pair{gone("key")}, 35},
		{[]api.Pair{there("k", "v"), there("k", "v"), long("a")}, 34 + 34 + 97},
		{[]api.Pair{there(strings.Repeat("k", 48), strings.Repeat("v", 64))}, 144},
		{[]api.Pair{there(strings.Repeat("k", 49), ""), there("k", "")}, 33},
		{[]api.Pair{there("k", strings.Repeat("v", 65))}, 0},
		{[]api.Pair{there("", "")}, 32},
		{many(300), 300 * 37},
	} {
		if got := Price(x.l); got != x.want {
			t.Errorf("%d: %d, not %d", i, got, x.want)
		}
	}
}

// P13.2: a turn of collecting settles what counts, moves what is needed with its own version, and erases.
func TestTurn(t *testing.T) {
	d, s := fresh(t)
	good(t, s.Put([]api.Pair{there("a", "1"), there("b", "2")}))
	good(t, s.Put([]api.Pair{there("a", "3"), long("c"), long("d"), long("e"), gone("h")}))
	good(t, s.Put([]api.Pair{long("f"), gone("c"), long("g")}))
	acts := d.Acts()
	good(t, s.Collect())
	want := []api.Found{
		{At: at(1, 8), Size: 97, Settled: true, Item: api.Item{Seq: 3, Ver: 3, Count: 3, Next: at(1, 105), Key: "f", Value: long("").Value}},
		{At: at(1, 105), Size: 33, Settled: true, Item: api.Item{Seq: 3, Ver: 3, Index: 1, Count: 3, Next: at(1, 138), Gone: true, Key: "c"}},
		{At: at(1, 138), Size: 97, Settled: true, Item: api.Item{Seq: 3, Ver: 3, Index: 2, Count: 3, Next: at(1, 8), Key: "g", Value: long("").Value}},
		{At: at(1, 235), Size: 34, Item: api.Item{Seq: 4, Ver: 1, Count: 4, Next: at(1, 269), Key: "b", Value: "2"}},
		{At: at(1, 269), Size: 34, Item: api.Item{Seq: 4, Ver: 2, Index: 1, Count: 4, Next: at(1, 303), Key: "a", Value: "3"}},
		{At: at(1, 303), Size: 97, Item: api.Item{Seq: 4, Ver: 2, Index: 2, Count: 4, Next: at(1, 400), Key: "d", Value: long("").Value}},
		{At: at(1, 400), Size: 97, Item: api.Item{Seq: 4, Ver: 2, Index: 3, Count: 4, Next: at(1, 235), Key: "e", Value: long("").Value}},
	}
	if got := found(t, d); !slices.Equal(got, want) {
		t.Fatalf("%+v", got)
	}
	// Ten flags, four items, a death and an erase.
	if d.Acts()-acts != 10+4+2 || d.Wear(0) != 1 || d.Wear(1) != 0 {
		t.Error(d.Acts()-acts, d.Wear(0), d.Wear(1))
	}
	holds(t, s, d, there("a", "3"), there("b", "2"), long("d"), long("e"), long("f"), long("g"))
	// All others are blank, or open: nothing can be collected, though what counts is settled by then.
	if err := s.Collect(); err != api.ErrSpace {
		t.Error(err)
	}
	if got := found(t, d); slices.ContainsFunc(got, func(f api.Found) bool { return !f.Settled }) {
		t.Errorf("%+v", got)
	}
}

// P13.2: without a blank sector one is erased of which nothing is needed; if there is none such, the turn can't be.
func TestTurnWithoutBlank(t *testing.T) {
	full := func(free int) *nor.Device {
		d := device(t, small)
		sh, _, err := shelf.New(d)
		good(t, err)
		for i := range 6 {
			p, _, _ := sh.Plan([]int{400})
			x := api.Item{Seq: uint64(i + 1), Ver: uint64(i + 1), Count: 1, Next: p[0], Key: "k" + strconv.Itoa(i), Gone: i == free}
			w, _ := ring.Put(x)
			f, _ := rec.Put(w)
			_, err := sh.Write(append(f, make([]byte, 400-len(f))...), x.Seq)
			good(t, err)
		}
		return d
	}
	d := full(4)
	s := opened(t, d)
	good(t, s.Collect())
	if d.Wear(4) != 1 || d.Wear(0) != 0 || s.Tree().Len() != 5 {
		t.Error(d.Wear(4), d.Wear(0), s.Tree().Len())
	}
	good(t, s.Collect())
	if d.Wear(0) != 1 || len(found(t, d)) != 5 {
		t.Error(d.Wear(0), found(t, d))
	}
	d = full(9)
	s = opened(t, d)
	if s.Collect() != api.ErrSpace || s.Put([]api.Pair{there("a", "")}) != api.ErrSpace || s.Tree().Len() != 6 {
		t.Error("all is needed, and no sector is blank, yet something is collected")
	}
	for i := range 6 {
		if d.Wear(i) != 0 {
			t.Errorf("sector %d was erased", i)
		}
	}
}

// P13.2: a tree that a store answers is one of all keys, and searches, whatever they were put as.
func TestTree(t *testing.T) {
	d, s := fresh(t)
	want := tree.New()
	for i, l := range [][]api.Pair{many(20), {gone("k1003"), there("k1004", "4")}, {there("k1003", "5"), gone("none")}} {
		good(t, s.Put(l))
		for _, p := range l {
			if want = want.Set(p.Key, p.Value); p.Gone {
				want = want.Cut(p.Key)
			}
		}
		holds(t, s, d, want.Range("", behind)...)
		for _, p := range want.Range("", behind) {
			if v, ok := s.Tree().Get(p.Key); !ok || v != p.Value {
				t.Errorf("step %d: %s is %s, %t", i, p.Key, v, ok)
			}
		}
	}
}
