package ring

import (
	"math"
	"slices"
	"strings"
	"testing"

	"flint/api"
	"flint/rec"
)

// text is a text of n bytes, of all kinds.
func text(n int) string {
	b := make([]byte, n)
	for i := range b {
		b[i] = byte(i*37 + n + 250)
	}
	return string(b)
}

// Bounds of ints and floats that nothing is made of.
var (
	wrongInts   = []int{math.MinInt, math.MinInt32, -256, -255, -1, math.MaxInt32, 1 << 32, math.MaxInt}
	wrongPlaces = []api.Place{
		-1, -1i, 0.5, 0.5i, 255, 255 + 1i, 65536i, 3 + 65536i, 254.5, 65535.5i, 1e300, 1e300i, 1 << 31, 1 << 32, 4294967296i,
		complex(math.NaN(), 0), complex(0, math.NaN()), complex(math.Inf(1), 0), complex(0, math.Inf(1)),
		complex(math.Inf(-1), 0), complex(0, math.Inf(-1)),
	}
)

// plain is an item that may be.
var plain = api.Item{Seq: 258, Ver: 3, Index: 1, Count: 3, Next: 4 + 600i, Key: "ab", Value: "c"}

// with is the plain item, changed.
func with(change func(x *api.Item)) api.Item {
	x := plain
	change(&x)
	return x
}

// right are items that may be, with the edges of all fields.
func right() []api.Item {
	l := []api.Item{plain}
	for _, n := range []uint64{0, 1, 255, 256, 1 << 32, 1 << 63, math.MaxUint64 - 1, math.MaxUint64} {
		l = append(l, with(func(x *api.Item) { x.Seq = n }), with(func(x *api.Item) { x.Ver = n }))
	}
	for _, n := range []int{1, 2, 3, 128, 254, 255} {
		for _, i := range []int{0, n / 2, n - 1} {
			l = append(l, with(func(x *api.Item) { x.Count, x.Index = n, i }))
		}
	}
	for _, p := range []api.Place{0, complex(math.Copysign(0, -1), math.Copysign(0, -1)), 1, 1i, 255i, 256i, 65535i, 254, 254 + 65535i, 3 + 40i} {
		l = append(l, with(func(x *api.Item) { x.Next = p }))
	}
	for n := 1; n <= 48; n++ {
		l = append(l, with(func(x *api.Item) { x.Key = text(n) }))
		l = append(l, with(func(x *api.Item) { x.Key, x.Value, x.Gone = text(n), "", true }))
	}
	for n := range 65 {
		l = append(l, with(func(x *api.Item) { x.Value = text(n) }))
	}
	return append(l, with(func(x *api.Item) { x.Key, x.Value = text(48), text(64) }))
}

// wrong are items that may not be, each for one thing alone.
func wrong() []api.Item {
	l := []api.Item{
		{},
		with(func(x *api.Item) { x.Count, x.Index = 0, 0 }),
		with(func(x *api.Item) { x.Count, x.Index = 0, -1 }),
		with(func(x *api.Item) { x.Count, x.Index = 256, 0 }),
		with(func(x *api.Item) { x.Count, x.Index = 257, 256 }),
		with(func(x *api.Item) { x.Count, x.Index = 3, 3 }),
		with(func(x *api.Item) { x.Count, x.Index = 1, 1 }),
		with(func(x *api.Item) { x.Count, x.Index = 255, 255 }),
		with(func(x *api.Item) { x.Key = "" }),
		with(func(x *api.Item) { x.Key = text(49) }),
		with(func(x *api.Item) { x.Key = text(256) }),
		with(func(x *api.Item) { x.Key = text(70000) }),
		with(func(x *api.Item) { x.Value = text(65) }),
		with(func(x *api.Item) { x.Value = text(257) }),
		with(func(x *api.Item) { x.Value = text(70000) }),
		with(func(x *api.Item) { x.Gone = true }),
		with(func(x *api.Item) { x.Gone, x.Value = true, text(65) }),
	}
	for _, n := range wrongInts {
		l = append(l, with(func(x *api.Item) { x.Count = n }), with(func(x *api.Item) { x.Index = n }))
		l = append(l, with(func(x *api.Item) { x.Count, x.Index = n, n }))
	}
	for _, p := range wrongPlaces {
		l = append(l, with(func(x *api.Item) { x.Next = p }))
	}
	return l
}

// P7.1: an item may be within its edges, and not beyond one of them.
func TestMay(t *testing.T) {
	for _, x := range right() {
		if !May(x) {
			t.Errorf("%+v may not be", x)
		}
	}
	for _, x := range wrong() {
		if May(x) {
			t.Errorf("%+v may be", x)
		}
	}
}

// P7.1: of all counts and indexes those may be whose index is below the count.
func TestMayOfIndexes(t *testing.T) {
	for count := -3; count < 300; count++ {
		for index := -3; index < 300; index++ {
			want := 0 <= index && index < count && count <= 255
			if got := May(with(func(x *api.Item) { x.Count, x.Index = count, index })); got != want {
				t.Fatalf("number %d of %d: %v", index, count, got)
			}
		}
	}
}

// P7.1: the size is that of the frame of the writing; 0, if key or value are too long.
func TestSize(t *testing.T) {
	for k := range 60 {
		for v := range 80 {
			want := 32 + k + v
			if k > 48 || v > 64 {
				want = 0
			}
			if got := Size(text(k), text(v)); got != want {
				t.Errorf("Size of %d and %d bytes = %d, not %d", k, v, got, want)
			}
		}
	}
	if got := Size(text(48), text(64)); got != api.MaxFrame {
		t.Errorf("the greatest size is %d", got)
	}
	for _, n := range []int{256, 304, 65535, 65536, 70000} {
		if Size(text(n), "") != 0 || Size("", text(n)) != 0 || Size(text(n), text(n)) != 0 {
			t.Errorf("a size of %d bytes", n)
		}
	}
}

// P7.1: of each item that may be the size is that of its frame.
func TestSizeIsTheFrames(t *testing.T) {
	for _, x := range right() {
		b, _ := Put(x)
		f, err := rec.Put(b)
		if err != api.OK || len(f) != Size(x.Key, x.Value) {
			t.Errorf("%+v: a frame of %d bytes, not %d", x, len(f), Size(x.Key, x.Value))
		}
	}
}

// pairs are n pairs, each third one gone, and what else a ring of them is made of.
func pairs(n int) ([]api.Pair, []uint64, []api.Place) {
	l, vers, at := make([]api.Pair, n), make([]uint64, n), make([]api.Place, n)
	for i := range n {
		l[i] = api.Pair{Key: text(i%48 + 1), Value: text(i % 65)}
		if i%3 == 2 {
			l[i] = api.Pair{Key: text(i%48 + 1), Gone: true}
		}
		vers[i] = uint64(1000 - i)
		at[i] = complex(float64(i%7), float64(8+i*40))
	}
	return l, vers, at
}

// linked is a ring, as Link tells it.
func linked(t *testing.T, seq uint64, l []api.Pair, vers []uint64, at []api.Place) []api.Item {
	t.Helper()
	items, err := Link(seq, l, vers, at)
	if err != api.OK {
		t.Fatalf("Link of %d: %v", len(l), err)
	}
	return items
}

// P7.1: a ring of one: its next one is itself.
func TestLinkOne(t *testing.T) {
	got := linked(t, 7, []api.Pair{{Key: "a", Value: "b"}}, []uint64{5}, []api.Place{3 + 40i})
	want := []api.Item{{Seq: 7, Ver: 5, Index: 0, Count: 1, Next: 3 + 40i, Key: "a", Value: "b"}}
	if !slices.Equal(got, want) {
		t.Errorf("%+v", got)
	}
}

// P7.1: each one of a ring leads to where the next one stands, the last one to the first one.
func TestLink(t *testing.T) {
	for _, n := range []int{1, 2, 3, 4, 48, 100, 254, 255} {
		l, vers, at := pairs(n)
		var want []api.Item
		for i, p := range l {
			x := api.Item{Seq: 99, Ver: vers[i], Index: i, Count: n, Next: at[0], Gone: p.Gone, Key: p.Key, Value: p.Value}
			if i < n-1 {
				x.Next = at[i+1]
			}
			want = append(want, x)
		}
		if got := linked(t, 99, l, vers, at); !slices.Equal(got, want) {
			t.Errorf("a ring of %d: %+v", n, got)
		}
	}
	for _, seq := range []uint64{0, 1, math.MaxUint64} {
		got := linked(t, seq, []api.Pair{{Key: "a"}}, []uint64{math.MaxUint64}, []api.Place{254 + 65535i})
		if got[0].Seq != seq || got[0].Ver != math.MaxUint64 {
			t.Errorf("%+v", got)
		}
	}
}

// refused fails the test, if there is such a ring.
func refused(t *testing.T, what string, l []api.Pair, vers []uint64, at []api.Place) {
	t.Helper()
	if got, err := Link(9, l, vers, at); len(got) != 0 || err != api.ErrArg {
		t.Errorf("%s: %+v, %v", what, got, err)
	}
}

// P7.1: there is no ring of none, of more than 255, or with other numbers of versions or places.
func TestLinkOfWrongNumbers(t *testing.T) {
	refused(t, "nil", nil, nil, nil)
	refused(t, "none", []api.Pair{}, []uint64{}, []api.Place{})
	refused(t, "no pair", nil, []uint64{1}, []api.Place{1})
	l, vers, at := pairs(256)
	refused(t, "256", l, vers, at)
	l, vers, at = pairs(600)
	refused(t, "600", l, vers, at)
	for n := 1; n <= 5; n++ {
		for _, other := range []int{0, n - 1, n + 1, 2 * n} {
			refused(t, "other versions", l[:n], vers[:other], at[:n])
			refused(t, "other places", l[:n], vers[:n], at[:other])
			refused(t, "other pairs", l[:other], vers[:n], at[:n])
		}
		linked(t, 9, l[:n], vers[:n], at[:n])
	}
}

// P7.1: there is no ring, if one of its items may not be, whichever it is.
func TestLinkOfWrongItems(t *testing.T) {
	for i := range 4 {
		for _, p := range []api.Pair{{}, {Value: "a"}, {Gone: true}, {Key: text(49)}, {Key: "a", Value: text(65)}, {Key: "a", Value: "b", Gone: true}} {
			l, vers, at := pairs(4)
			l[i] = p
			refused(t, "a wrong pair", l, vers, at)
		}
		for _, p := range wrongPlaces {
			l, vers, at := pairs(4)
			at[i] = p
			refused(t, "a wrong place", l, vers, at)
		}
	}
}

// P7.1 (R3, R5): what is handed in stays as it was and isn't kept, and the same is answered again.
func TestLinkLeavesArguments(t *testing.T) {
	l, vers, at := pairs(9)
	got := linked(t, 1, l, vers, at)
	again := linked(t, 1, l, vers, at)
	ofL, ofVers, ofAt := pairs(9)
	if !slices.Equal(l, ofL) || !slices.Equal(vers, ofVers) || !slices.Equal(at, ofAt) {
		t.Error("Link changed what was handed in")
	}
	clear(l)
	clear(vers)
	clear(at)
	if !slices.Equal(got, again) || got[3].Key != ofL[3].Key || got[3].Next != ofAt[4] {
		t.Error("what is handed in is kept")
	}
	clear(got)
	if slices.Equal(got, again) || strings.Compare(again[0].Key, ofL[0].Key) != 0 {
		t.Error("two answers share memory")
	}
}
