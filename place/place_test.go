package place

import (
	"math"
	"slices"
	"testing"

	"flint/api"
)

const greatest = 2147483647

// parts are numbers at the edges of what a place's part can be, all of them right.
func parts() []int {
	return []int{0, 1, 2, 3, 40, 41, 253, 254, 255, 256, 257, 511, 512, 513, 4096, 65534, 65535, 65536, 65537, 1 << 24, 1<<24 + 1, greatest - 1, greatest}
}

// wrongInts are numbers that no place's part is.
func wrongInts() []int {
	return []int{-1, -2, -40, -greatest, -greatest - 1, math.MinInt + 1, math.MinInt, greatest + 1, greatest + 2, 1 << 32, 1<<32 + 1, 1 << 53, math.MaxInt - 1, math.MaxInt}
}

// wrongFloats are numbers with a point that no place's part is.
func wrongFloats() []float64 {
	return []float64{
		0.5, -0.5, 1.5, 39.999, 254.5, 65535.5, greatest - 0.5, greatest + 0.5, greatest + 1, -1, -40, -greatest,
		1 << 32, 1 << 53, 1 << 62, 1 << 63, 1 << 64, -(1 << 63), 1e18, 1e300, -1e300,
		math.MaxFloat64, -math.MaxFloat64, math.SmallestNonzeroFloat64, -math.SmallestNonzeroFloat64,
		math.Nextafter(1, 0), math.Nextafter(1, 2), math.Nextafter(greatest, 0), math.Nextafter(greatest, 1<<40),
		math.Inf(1), math.Inf(-1), math.NaN(),
	}
}

// rightPlaces are places of all edges, rising.
func rightPlaces() []api.Place {
	var l []api.Place
	for _, s := range parts() {
		for _, o := range parts() {
			l = append(l, complex(float64(s), float64(o)))
		}
	}
	return l
}

// wrongPlaces are places of which one part, or both, isn't right.
func wrongPlaces() []api.Place {
	var l []api.Place
	for _, x := range wrongFloats() {
		for _, y := range []float64{0, 3, greatest} {
			l = append(l, complex(x, y), complex(y, x))
		}
		l = append(l, complex(x, x), complex(x, math.NaN()))
	}
	return l
}

// negative are places with parts that are -0, and what they count as.
func negative() map[api.Place]struct{ sector, offset int } {
	zero := math.Copysign(0, -1)
	return map[api.Place]struct{ sector, offset int }{
		complex(zero, 2):    {0, 2},
		complex(3, zero):    {3, 0},
		complex(zero, zero): {0, 0},
		complex(0, zero):    {0, 0},
	}
}

// same tells whether two places are alike bit by bit, where a zero's sign counts, too.
func same(a, b api.Place) bool {
	return math.Float64bits(real(a)) == math.Float64bits(real(b)) && math.Float64bits(imag(a)) == math.Float64bits(imag(b))
}

// P2.1: the place of two numbers, among them the chapter's example; 0 of those that aren't right.
func TestOf(t *testing.T) {
	if got := Of(3, 40); got != 3+40i {
		t.Errorf("Of(3, 40) = %v", got)
	}
	if got := Of(greatest, greatest); got != complex(2147483647, 2147483647) {
		t.Errorf("Of the greatest = %v", got)
	}
	for _, s := range parts() {
		for _, o := range parts() {
			if got := Of(s, o); !same(got, complex(float64(s), float64(o))) {
				t.Errorf("Of(%d, %d) = %v", s, o, got)
			}
		}
	}
	for _, x := range wrongInts() {
		for _, y := range append(parts(), wrongInts()...) {
			if a, b := Of(x, y), Of(y, x); !same(a, 0) || !same(b, 0) {
				t.Errorf("Of %d and %d = %v, %v", x, y, a, b)
			}
		}
	}
}

// P2.1: a right place's parts.
func TestParts(t *testing.T) {
	for _, s := range parts() {
		for _, o := range parts() {
			if gs, g, ok := Parts(complex(float64(s), float64(o))); gs != s || g != o || !ok {
				t.Errorf("Parts of %d, %d: %d, %d, %v", s, o, gs, g, ok)
			}
			if gs, g, ok := Parts(Of(s, o)); gs != s || g != o || !ok {
				t.Errorf("Parts of Of(%d, %d): %d, %d, %v", s, o, gs, g, ok)
			}
		}
	}
	for p, want := range negative() {
		if s, o, ok := Parts(p); s != want.sector || o != want.offset || !ok {
			t.Errorf("Parts(%v): %d, %d, %v", p, s, o, ok)
		}
	}
}

// P2.1: a place isn't right, if a part isn't whole, is below 0, above 2^31 - 1, or no number.
func TestPartsOfWrong(t *testing.T) {
	for _, p := range wrongPlaces() {
		if s, o, ok := Parts(p); s != 0 || o != 0 || ok {
			t.Errorf("Parts(%v): %d, %d, %v", p, s, o, ok)
		}
	}
}

// P2.1: so many bytes further, and back, up to the edges; among them the chapter's example.
func TestOn(t *testing.T) {
	for _, c := range []struct {
		p    api.Place
		n    int
		want api.Place
	}{
		{3 + 40i, 0, 3 + 40i},
		{3 + 40i, 1, 3 + 41i},
		{3 + 40i, -39, 3 + 1i},
		{3 + 40i, -40, 3},
		{3 + 40i, -41, 0},
		{3, -1, 0},
		{3, 600, 3 + 600i},
		{0, greatest, complex(0, greatest)},
		{7, greatest, complex(7, greatest)},
		{7, greatest + 1, 0},
		{7 + 1i, greatest - 1, complex(7, greatest)},
		{7 + 1i, greatest, 0},
		{complex(greatest, greatest), 0, complex(greatest, greatest)},
		{complex(greatest, greatest), 1, 0},
		{complex(greatest, greatest), -greatest, complex(greatest, 0)},
		{complex(greatest, greatest), -greatest - 1, 0},
		{complex(5, greatest), math.MaxInt, 0},
		{complex(5, greatest), math.MaxInt - greatest, 0},
		{complex(5, greatest), math.MinInt, 0},
		{5, math.MinInt, 0},
		{5, math.MaxInt, 0},
		{5 + 8i, 1 << 32, 0},
		{5 + 8i, -(1 << 32), 0},
	} {
		if got := On(c.p, c.n); !same(got, c.want) {
			t.Errorf("On(%v, %d) = %v, not %v", c.p, c.n, got, c.want)
		}
	}
	for p, want := range negative() {
		for _, n := range []int{0, 9} {
			if got := On(p, n); !same(got, Of(want.sector, want.offset+n)) {
				t.Errorf("On(%v, %d) = %v", p, n, got)
			}
		}
	}
}

// P2.1: from every edge to every edge, and a byte beyond on both sides.
func TestOnToEdges(t *testing.T) {
	for _, s := range []int{0, 9, greatest} {
		for _, a := range parts() {
			for _, b := range parts() {
				if got := On(Of(s, a), b-a); !same(got, Of(s, b)) {
					t.Errorf("On(Of(%d, %d), %d) = %v", s, a, b-a, got)
				}
			}
			for _, n := range []int{-a - 1, greatest - a + 1, math.MinInt, math.MinInt + a, math.MaxInt - a, math.MaxInt} {
				if got := On(Of(s, a), n); !same(got, 0) {
					t.Errorf("On(Of(%d, %d), %d) = %v", s, a, n, got)
				}
			}
		}
	}
}

// P2.1: nothing is further than a place that isn't right.
func TestOnOfWrong(t *testing.T) {
	for _, p := range wrongPlaces() {
		for _, n := range []int{0, 1, -1, 2, 40, greatest, -greatest, math.MaxInt, math.MinInt} {
			if got := On(p, n); !same(got, 0) {
				t.Errorf("On(%v, %d) = %v", p, n, got)
			}
		}
	}
}

// P2.1, P2.3: the sector counts first, then the bytes ahead.
func TestCompare(t *testing.T) {
	for _, c := range []struct {
		a, b api.Place
		want int
	}{
		{3 + 40i, 3 + 40i, 0},
		{3 + 40i, 4, -1},
		{4, 3 + 40i, 1},
		{3 + 41i, 3 + 40i, 1},
		{3 + 40i, 3 + 41i, -1},
		{0, 0, 0},
		{0, 1i, -1},
		{complex(0, greatest), 1, -1},
		{complex(greatest, greatest), complex(greatest, greatest-1), 1},
		{complex(greatest, greatest), -1, -1},
		{-1, complex(greatest, greatest), 1},
		{-1, 0, 1},
		{0, -1i, -1},
		{-1, 0.5, 0},
		{complex(math.NaN(), 0), -1, 0},
		{complex(math.NaN(), 0), complex(math.NaN(), 0), 0},
		{complex(math.Inf(-1), 0), 0, 1},
		{complex(math.Inf(1), 0), complex(math.Inf(-1), 0), 0},
	} {
		if got := Compare(c.a, c.b); got != c.want {
			t.Errorf("Compare(%v, %v) = %d, not %d", c.a, c.b, got, c.want)
		}
	}
	for p, want := range negative() {
		if q := Of(want.sector, want.offset); Compare(p, q) != 0 || Compare(q, p) != 0 {
			t.Errorf("%v isn't the same as %v", p, q)
		}
	}
}

// P2.3: of places in a row each one stands behind all that are ahead of it, and ahead of all behind it.
func TestRow(t *testing.T) {
	row := rightPlaces()
	for i, a := range row {
		for j, b := range row {
			want := 0
			if i < j {
				want = -1
			} else if i > j {
				want = 1
			}
			if got := Compare(a, b); got != want {
				t.Fatalf("Compare(%v, %v) = %d, not %d", a, b, got, want)
			}
		}
	}
}

// P2.1, P2.3: those that aren't right stand behind all that are, and are all the same.
func TestRowOfWrong(t *testing.T) {
	for _, a := range wrongPlaces() {
		for _, b := range rightPlaces() {
			if Compare(a, b) != 1 || Compare(b, a) != -1 {
				t.Fatalf("%v doesn't stand behind %v", a, b)
			}
		}
		for _, b := range wrongPlaces() {
			if Compare(a, b) != 0 {
				t.Fatalf("%v and %v aren't the same", a, b)
			}
		}
	}
}

// P2.3: whatever the places are, they come to stand in the same row.
func TestRowSorted(t *testing.T) {
	want := append(rightPlaces(), -1, 0.5)
	got := slices.Clone(want)
	slices.Reverse(got)
	slices.SortFunc(got, Compare)
	for i, p := range rightPlaces() {
		if got[i] != p {
			t.Fatalf("number %d is %v, not %v", i, got[i], p)
		}
	}
}

// P2.1: as many bytes as there are from the place up to the sector's end, and no more.
func TestWithin(t *testing.T) {
	g := api.Geometry{Sectors: 6, Size: 512}
	for _, c := range []struct {
		p    api.Place
		n    int
		want bool
	}{
		{0, 0, true},
		{0, 1, true},
		{0, 512, true},
		{0, 513, false},
		{0, -1, false},
		{5, 512, true},
		{5, -1, false},
		{5 + 500i, 12, true},
		{5 + 500i, 13, false},
		{5 + 511i, 1, true},
		{5 + 511i, 2, false},
		{5 + 512i, 0, true},
		{5 + 512i, 1, false},
		{5 + 512i, -1, false},
		{5 + 513i, 0, false},
		{5 + 513i, -1, false},
		{6, 0, false},
		{6, 1, false},
		{6, -1, false},
		{-1, 0, false},
		{-1i, 1, false},
		{0.5, 1, false},
		{0, math.MaxInt, false},
		{5 + 500i, math.MaxInt, false},
		{5 + 512i, math.MaxInt, false},
		{5, math.MinInt, false},
		{5 + 500i, math.MinInt, false},
		{complex(5, greatest), math.MaxInt, false},
		{complex(5, greatest), 0, false},
		{complex(greatest, 0), 0, false},
		{complex(math.NaN(), 0), 0, false},
		{complex(0, math.Inf(-1)), 0, false},
	} {
		if got := Within(g, c.p, c.n); got != c.want {
			t.Errorf("Within(%v, %d) = %v", c.p, c.n, got)
		}
	}
	for p, want := range negative() {
		if !Within(g, p, 512-want.offset) || Within(g, p, 513-want.offset) {
			t.Errorf("Within of %v isn't that of %v", p, want)
		}
	}
}

// P2.1: Within goes by the two numbers of any geometry, whether it may be or not.
func TestWithinAnyGeometry(t *testing.T) {
	for _, c := range []struct {
		sectors, size int
		p             api.Place
		n             int
		want          bool
	}{
		{0, 0, 0, 0, false},
		{1, 0, 0, 0, true},
		{1, 0, 0, 1, false},
		{1, -1, 0, 0, false},
		{-1, 512, 0, 0, false},
		{math.MinInt, math.MinInt, 0, 0, false},
		{6, math.MinInt, 1i, 0, false},
		{6, math.MinInt, 1i, math.MaxInt, false},
		{6, math.MinInt, complex(1, greatest), 5, false},
		{math.MinInt, 512, 1i, 1, false},
		{math.MaxInt, math.MaxInt, complex(greatest, greatest), 1, true},
		{math.MaxInt, math.MaxInt, complex(greatest, greatest), math.MaxInt - greatest, true},
		{math.MaxInt, math.MaxInt, complex(greatest, greatest), math.MaxInt - greatest + 1, false},
		{math.MaxInt, math.MaxInt, complex(greatest, greatest), math.MaxInt, false},
		{math.MaxInt, math.MaxInt, 0, math.MaxInt, true},
		{math.MaxInt, math.MaxInt, -1, 0, false},
		{64, 4096, 63 + 4095i, 1, true},
		{64, 4096, 63 + 4095i, 2, false},
		{2, 10, 1 + 4i, 6, true},
		{2, 10, 1 + 4i, 7, false},
		{2, 10, 2 + 4i, 6, false},
	} {
		if got := Within(api.Geometry{Sectors: c.sectors, Size: c.size}, c.p, c.n); got != c.want {
			t.Errorf("Within(%d of %d, %v, %d) = %v", c.sectors, c.size, c.p, c.n, got)
		}
	}
}

// P2.1: nothing from a place that isn't right is within anything.
func TestWithinOfWrong(t *testing.T) {
	for _, g := range []api.Geometry{{Sectors: 6, Size: 512}, {Sectors: math.MaxInt, Size: math.MaxInt}} {
		for _, p := range wrongPlaces() {
			if Within(g, p, 0) || Within(g, p, 1) {
				t.Errorf("%v is within %v", p, g)
			}
		}
	}
}

// P2.1: the sector's byte, and the offset's two, the high one first.
func TestPut(t *testing.T) {
	for _, c := range []struct {
		p    api.Place
		want [3]byte
	}{
		{0, [3]byte{0, 0, 0}},
		{1i, [3]byte{0, 0, 1}},
		{3 + 258i, [3]byte{3, 1, 2}},
		{3 + 255i, [3]byte{3, 0, 255}},
		{3 + 256i, [3]byte{3, 1, 0}},
		{254 + 65535i, [3]byte{254, 255, 255}},
		{254, [3]byte{254, 0, 0}},
		{255, [3]byte{255, 255, 255}},
		{255 + 1i, [3]byte{255, 255, 255}},
		{255 + 65535i, [3]byte{255, 255, 255}},
		{256, [3]byte{255, 255, 255}},
		{256 + 7i, [3]byte{255, 255, 255}},
		{3 + 65535i, [3]byte{3, 255, 255}},
		{3 + 65536i, [3]byte{255, 255, 255}},
		{65536i, [3]byte{255, 255, 255}},
		{complex(greatest, greatest), [3]byte{255, 255, 255}},
		{-1, [3]byte{255, 255, 255}},
		{0.5, [3]byte{255, 255, 255}},
	} {
		if got := Put(c.p); got != c.want {
			t.Errorf("Put(%v) = %v, not %v", c.p, got, c.want)
		}
	}
	for p, want := range negative() {
		if got := Put(p); got != [3]byte{byte(want.sector), 0, byte(want.offset)} {
			t.Errorf("Put(%v) = %v", p, got)
		}
	}
	for _, p := range wrongPlaces() {
		if got := Put(p); got != [3]byte{255, 255, 255} {
			t.Errorf("Put(%v) = %v", p, got)
		}
	}
}

// P2.1: the place of three bytes; just of three bytes 255 it is -1.
func TestGet(t *testing.T) {
	for _, c := range []struct {
		b    [3]byte
		want api.Place
	}{
		{[3]byte{0, 0, 0}, 0},
		{[3]byte{3, 1, 2}, 3 + 258i},
		{[3]byte{0, 255, 255}, 65535i},
		{[3]byte{254, 255, 255}, 254 + 65535i},
		{[3]byte{255, 0, 0}, 255},
		{[3]byte{255, 255, 254}, 255 + 65534i},
		{[3]byte{255, 254, 255}, 255 + 65279i},
		{[3]byte{255, 255, 255}, -1},
	} {
		if got := Get(c.b); !same(got, c.want) {
			t.Errorf("Get(%v) = %v, not %v", c.b, got, c.want)
		}
	}
	if _, _, ok := Parts(Get([3]byte{255, 255, 255})); ok {
		t.Error("the place of three bytes 255 is right")
	}
}

// P2.2: each place that has room in three bytes is put so that it is got.
func TestPutIsGot(t *testing.T) {
	for sector := range 255 {
		for offset := range 65536 {
			p := Of(sector, offset)
			if got := Get(Put(p)); got != p {
				t.Fatalf("%v is put as %v, and got as %v", p, Put(p), got)
			}
		}
	}
}

// P2.2: what can't be put is got as no place, what is none is put as that.
func TestPutOfNone(t *testing.T) {
	for _, p := range append(wrongPlaces(), 255, 256, 65536i, 254+65536i, complex(greatest, 0), complex(0, greatest)) {
		if got := Get(Put(p)); !same(got, -1) {
			t.Errorf("%v is got as %v", p, got)
		}
	}
	if got := Put(Get([3]byte{255, 255, 255})); got != [3]byte{255, 255, 255} {
		t.Errorf("no place is put as %v", got)
	}
}

// P2.1: a geometry may be from the least to the greatest of both numbers.
func TestMay(t *testing.T) {
	sectors := map[int]int{6: 1, 7: 1, 33: 1, 63: 1, 64: 1, 5: 0, 65: 0, 0: 0, -6: 0, 512: 0, math.MaxInt: 0, math.MinInt: 0, 1<<32 + 6: 0}
	sizes := map[int]int{512: 1, 513: 1, 1000: 1, 4095: 1, 4096: 1, 511: 0, 4097: 0, 0: 0, -512: 0, 64: 0, math.MaxInt: 0, math.MinInt: 0, 1<<32 + 512: 0}
	for n, ok := range sectors {
		for size, fits := range sizes {
			if got, want := May(api.Geometry{Sectors: n, Size: size}), ok*fits == 1; got != want {
				t.Errorf("May(%d of %d) = %v", n, size, got)
			}
		}
	}
	if May(api.Geometry{}) {
		t.Error("a geometry of nothing may be")
	}
}
