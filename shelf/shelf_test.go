package shelf

import (
	"bytes"
	"math"
	"slices"
	"strings"
	"testing"

	"flint/api"
	"flint/head"
	"flint/nor"
	"flint/rec"
	"flint/ring"
	"flint/scan"
)

// small is the least geometry.
var small = api.Geometry{Sectors: 6, Size: 512}

// great is the greatest one.
var great = api.Geometry{Sectors: 64, Size: 4096}

// most is how many bytes have room in a blank sector of small, behind its head.
const most = 512 - 8

// at is the place of a sector and an offset.
func at(sector, offset int) api.Place { return complex(float64(sector), float64(offset)) }

// frame is the frame of an item of a ring of one, of so many bytes more than the least.
func frame(t *testing.T, seq uint64, more int) []byte {
	t.Helper()
	return frameOf(t, api.Item{Seq: seq, Ver: seq, Count: 1, Key: strings.Repeat("k", 1+min(more, 47)), Value: strings.Repeat("v", max(more-47, 0))})
}

// frameOf is the frame of an item.
func frameOf(t *testing.T, x api.Item) []byte {
	t.Helper()
	b, err := ring.Put(x)
	if err != api.OK {
		t.Fatalf("the writing of %+v: %v", x, err)
	}
	f, err := rec.Put(b)
	if err != api.OK {
		t.Fatalf("the frame of %+v: %v", x, err)
	}
	return f
}

// device is a new device.
func device(t *testing.T, g api.Geometry) *nor.Device {
	t.Helper()
	d, err := nor.New(g)
	if err != api.OK {
		t.Fatalf("a device of %v: %v", g, err)
	}
	return d
}

// shelfOf is a shelf on a device, and what was found there.
func shelfOf(t *testing.T, d *nor.Device) (*Shelf, []api.Found) {
	t.Helper()
	s, found, err := New(d)
	if s == nil || err != api.OK {
		t.Fatalf("a shelf: %v", err)
	}
	return s, found
}

// fresh is a new device of the least geometry, and a shelf on it.
func fresh(t *testing.T) (*nor.Device, *Shelf) {
	t.Helper()
	d := device(t, small)
	s, found := shelfOf(t, d)
	if len(found) != 0 {
		t.Fatalf("found on a new device: %+v", found)
	}
	return d, s
}

// good fails the test, if a call answered an error.
func good(t *testing.T, err api.Errno) {
	t.Helper()
	if err != api.OK {
		t.Fatal(err)
	}
}

// refused fails the test, if a call answered another error than it is to.
func refused(t *testing.T, what string, err, want api.Errno) {
	t.Helper()
	if err != want {
		t.Errorf("%s: %v, not %v", what, err, want)
	}
}

// writes writes bytes that are to stand at a place.
func writes(t *testing.T, s *Shelf, b []byte, age uint64, want api.Place) {
	t.Helper()
	if p, err := s.Write(b, age); p != want || err != api.OK {
		t.Fatalf("%d bytes stand at %v, %v, not at %v", len(b), p, err, want)
	}
}

// fails writes bytes that are to be refused.
func fails(t *testing.T, s *Shelf, b []byte, want api.Errno) {
	t.Helper()
	if p, err := s.Write(b, 99); p != 0 || err != want {
		t.Fatalf("%d bytes: %v, %v, not %v", len(b), p, err, want)
	}
}

// stands holds how all sectors stand against how they are to; those that aren't told are Blank.
func stands(t *testing.T, s *Shelf, want ...api.Info) {
	t.Helper()
	l := s.Infos()
	for len(want) < len(l) {
		want = append(want, api.Info{})
	}
	if !slices.Equal(l, want) {
		t.Errorf("they stand %+v, not %+v", l, want)
	}
}

// ends holds the ends of the first sectors against what they are to be, those behind against 0.
func ends(t *testing.T, s *Shelf, want ...int) {
	t.Helper()
	for i := range len(s.Infos()) {
		n := 0
		if i < len(want) {
			n = want[i]
		}
		if got := s.End(i); got != n {
			t.Errorf("the end of sector %d is %d, not %d", i, got, n)
		}
	}
}

// content is all that stands on a device that is on.
func content(t *testing.T, d *nor.Device) [][]byte {
	t.Helper()
	var l [][]byte
	for i := range d.Geometry().Sectors {
		b, err := d.Read(at(i, 0), d.Geometry().Size)
		good(t, err)
		l = append(l, b)
	}
	return l
}

// live is the bytes of a sector with a head and others behind it.
func live(g api.Geometry, behind ...byte) []byte {
	h := head.Of(g)
	b := append(h[:], behind...)
	return append(b, bytes.Repeat([]byte{255}, g.Size-len(b))...)
}

// P12.1 New: as found, sector by sector, no sector open; ErrOff, if it is off.
func TestNew(t *testing.T) {
	d := device(t, small)
	a, b, c := frame(t, 7, 0), frame(t, 9, 20), frame(t, 3, 80)
	good(t, d.Program(at(1, 0), live(small, slices.Concat(a, b, c)...)))
	good(t, d.Program(at(2, 0), []byte{0}))
	good(t, d.Program(at(4, 0), live(small, c...)))
	good(t, d.Program(at(4, 8), []byte{rec.Flag(api.Settled)}))
	good(t, d.Program(at(5, 0), live(small, append(a, 1, 2, 3)...)))
	good(t, d.Erase(3))
	scanned, err := scan.All(d)
	good(t, err)
	acts := d.Acts()
	s, found := shelfOf(t, d)
	var want []api.Found
	for _, x := range scanned {
		want = append(want, x.Found...)
	}
	if !slices.Equal(found, want) || len(found) != 5 {
		t.Errorf("found %+v, not %+v", found, want)
	}
	stands(t, s, api.Info{}, api.Info{Class: api.Live, Age: 9}, api.Info{Class: api.Dirty}, api.Info{Wear: 1},
		api.Info{Class: api.Live, Age: 3}, api.Info{Class: api.Live, Age: 7})
	ends(t, s, 0, 8+len(a)+len(b)+len(c), 0, 0, 8+len(c), 8+len(a))
	if d.Acts() != acts {
		t.Error("making a shelf is an act")
	}
	// What stands in the sectors that were found isn't written behind, though there is room.
	writes(t, s, a, 20, at(0, 8))
	d.Off()
	if s, found, err := New(d); s != nil || len(found) != 0 || err != api.ErrOff {
		t.Errorf("of a device that is off: %v, %+v, %v", s, found, err)
	}
}

// P12.1 What was found is new memory, and isn't kept.
func TestNewIsNew(t *testing.T) {
	d, s := fresh(t)
	writes(t, s, frame(t, 7, 0), 7, 8i)
	s, found := shelfOf(t, d)
	_, again := shelfOf(t, d)
	found[0] = api.Found{Item: api.Item{Seq: 100}}
	if again[0].Item.Seq != 7 || s.Infos()[0].Age != 7 {
		t.Error("two answers share memory, or what was answered is kept")
	}
}

// P12.1 A nil shelf: ErrOff; none, 0, false, whatever else is wrong.
func TestNil(t *testing.T) {
	s, found, err := New(nil)
	if s != nil || len(found) != 0 || err != api.ErrOff {
		t.Errorf("of no device: %v, %+v, %v", s, found, err)
	}
	for _, sizes := range [][]int{nil, {}, {1}, {-1}} {
		if l, n, ok := s.Plan(sizes); len(l) != 0 || n != 0 || ok {
			t.Errorf("Plan(%v) of none: %v, %d, %t", sizes, l, n, ok)
		}
	}
	for _, n := range []int{0, 1, 99999} {
		fails(t, s, make([]byte, n), api.ErrOff)
	}
	for _, state := range []int{api.Settled, api.Obsolete, api.Written, -1} {
		refused(t, "Flag of none", s.Flag(8i, state), api.ErrOff)
	}
	for _, sector := range []int{-1, 0, 5, 99} {
		refused(t, "Erase of none", s.Erase(sector), api.ErrOff)
		s.Need(sector, 5)
		s.Hold(sector)
		if s.End(sector) != 0 || len(s.Infos()) != 0 {
			t.Error("a sector of none")
		}
	}
}

// P12.1 Plan: the chapter's example, the edges of what has room, and what can't be planned.
func TestPlan(t *testing.T) {
	d, s := fresh(t)
	for _, c := range []struct {
		sizes  []int
		places []api.Place
		opened int
		ok     bool
	}{
		{nil, nil, 0, true},
		{[]int{}, nil, 0, true},
		{[]int{10, 20}, []api.Place{8i, 18i}, 1, true},
		{[]int{1}, []api.Place{8i}, 1, true},
		{[]int{most}, []api.Place{8i}, 1, true},
		{[]int{most + 1}, nil, 0, false},
		{[]int{most - 1, 1}, []api.Place{8i, 511i}, 1, true},
		{[]int{most, 1}, []api.Place{8i, 1 + 8i}, 2, true},
		{[]int{most - 1, 2, most, 1}, []api.Place{8i, 1 + 8i, 2 + 8i, 3 + 8i}, 4, true},
		{[]int{300, 300, 204, 1}, []api.Place{8i, 1 + 8i, 1 + 308i, 2 + 8i}, 3, true},
		{[]int{most, most, most, most, most, most}, []api.Place{8i, 1 + 8i, 2 + 8i, 3 + 8i, 4 + 8i, 5 + 8i}, 6, true},
		{[]int{most, most, most, most, most, most, 1}, nil, 0, false},
		{[]int{0}, nil, 0, false},
		{[]int{1, 2, 0}, nil, 0, false},
		{[]int{-1, 5}, nil, 0, false},
		{[]int{5, math.MinInt}, nil, 0, false},
		{[]int{math.MaxInt, 1}, nil, 0, false},
		{[]int{1, math.MaxInt}, nil, 0, false},
		{[]int{1, math.MaxInt - 8, 1}, nil, 0, false},
	} {
		was := slices.Clone(c.sizes)
		for range 2 {
			l, n, ok := s.Plan(c.sizes)
			if !slices.Equal(l, c.places) || n != c.opened || ok != c.ok {
				t.Errorf("Plan(%v): %v, %d, %t, not %v, %d, %t", c.sizes, l, n, ok, c.places, c.opened, c.ok)
			}
			clear(l)
		}
		if !slices.Equal(c.sizes, was) {
			t.Errorf("Plan changed %v", was)
		}
	}
	stands(t, s)
	if d.Acts() != 0 {
		t.Error("planning is an act")
	}
}

// P12.1 Plan goes on behind the end of the open sector, then takes the sectors by their wear; not those that are held.
func TestPlanOn(t *testing.T) {
	d := device(t, small)
	for i, n := range []int{2, 1, 0, 1, 1, 3} {
		for range n {
			good(t, d.Erase(i))
		}
	}
	s, _ := shelfOf(t, d)
	writes(t, s, make([]byte, 400), 1, at(2, 8))
	s.Hold(3)
	s.Hold(2)
	for _, c := range []struct {
		sizes  []int
		places []api.Place
		opened int
	}{
		{[]int{104}, []api.Place{2 + 408i}, 0},
		{[]int{100, 4}, []api.Place{2 + 408i, 2 + 508i}, 0},
		{[]int{105}, []api.Place{1 + 8i}, 1},
		{[]int{104, 1}, []api.Place{2 + 408i, 1 + 8i}, 1},
		{[]int{105, 400, 500, 500}, []api.Place{1 + 8i, 4 + 8i, 0 + 8i, 5 + 8i}, 4},
		{[]int{105, 399, 500, 500}, []api.Place{1 + 8i, 1 + 113i, 4 + 8i, 0 + 8i}, 3},
	} {
		if l, n, ok := s.Plan(c.sizes); !slices.Equal(l, c.places) || n != c.opened || !ok {
			t.Errorf("Plan(%v): %v, %d, %t, not %v, %d", c.sizes, l, n, ok, c.places, c.opened)
		}
	}
	if l, n, ok := s.Plan([]int{500, 500, 500, 500, 500}); len(l) != 0 || n != 0 || ok {
		t.Errorf("five, of which four have room: %v, %d, %t", l, n, ok)
	}
}

// P12.1 Write: one behind the other, up to the last byte; a head ahead of each sector.
func TestWrite(t *testing.T) {
	d, s := fresh(t)
	a, b, c := frame(t, 7, 0), bytes.Repeat([]byte{5}, most-33-1), []byte{9}
	writes(t, s, a, 7, 8i)
	stands(t, s, api.Info{Class: api.Live, Open: true, Age: 7})
	ends(t, s, 41)
	writes(t, s, b, 8, 41i)
	ends(t, s, 511)
	writes(t, s, c, 9, 511i)
	ends(t, s, 512)
	stands(t, s, api.Info{Class: api.Live, Open: true, Age: 9})
	if d.Acts() != 4 {
		t.Errorf("%d acts", d.Acts())
	}
	writes(t, s, c, 4, 1+8i)
	stands(t, s, api.Info{Class: api.Live, Age: 9}, api.Info{Class: api.Live, Open: true, Age: 4})
	ends(t, s, 512, 9)
	l := content(t, d)
	if !bytes.Equal(l[0], live(small, slices.Concat(a, b, c)...)) || !bytes.Equal(l[1], live(small, c...)) || d.Acts() != 6 {
		t.Error("what was written doesn't stand there")
	}
}

// P12.1 Write: what has no room in the open sector closes it, though there is room left.
func TestWriteCloses(t *testing.T) {
	_, s := fresh(t)
	writes(t, s, make([]byte, 400), 1, 8i)
	writes(t, s, make([]byte, 105), 1, 1+8i)
	writes(t, s, make([]byte, 104), 1, 1+113i)
	writes(t, s, make([]byte, most), 1, 2+8i)
	ends(t, s, 408, 217, 512)
	stands(t, s, api.Info{Class: api.Live, Age: 1}, api.Info{Class: api.Live, Age: 1}, api.Info{Class: api.Live, Open: true, Age: 1})
}

// P12.1 Write: ErrLong goes ahead of ErrSpace and the device's errors; it changes nothing.
func TestWriteLong(t *testing.T) {
	d, s := fresh(t)
	tooLong := func() {
		t.Helper()
		was := s.Infos()
		fails(t, s, nil, api.ErrLong)
		fails(t, s, []byte{}, api.ErrLong)
		fails(t, s, make([]byte, most+1), api.ErrLong)
		fails(t, s, make([]byte, 70000), api.ErrLong)
		if !slices.Equal(s.Infos(), was) {
			t.Error("what is too long changed how they stand")
		}
	}
	tooLong()
	writes(t, s, make([]byte, 400), 1, 8i)
	tooLong()
	for i := range 5 {
		writes(t, s, make([]byte, most), 1, at(i+1, 8))
	}
	fails(t, s, make([]byte, most), api.ErrSpace)
	tooLong()
	d.Off()
	tooLong()
	if d.Acts() != 12 {
		t.Errorf("%d acts", d.Acts())
	}
}

// P12.1 Write: ErrSpace, if a sector must be opened, and there is none; it does and changes nothing, so that what has room is written still.
func TestWriteSpace(t *testing.T) {
	d, s := fresh(t)
	for i := range 5 {
		writes(t, s, make([]byte, most), 1, at(i, 8))
	}
	writes(t, s, make([]byte, 400), 1, 5+8i)
	was := s.Infos()
	acts := d.Acts()
	for range 2 {
		fails(t, s, make([]byte, 105), api.ErrSpace)
	}
	if !slices.Equal(s.Infos(), was) || s.End(5) != 408 || d.Acts() != acts {
		t.Errorf("they stand %+v, not %+v", s.Infos(), was)
	}
	writes(t, s, make([]byte, 104), 2, 5+408i)
	fails(t, s, []byte{1}, api.ErrSpace)
	d.Off()
	fails(t, s, []byte{1}, api.ErrSpace)
	d.On()
	good(t, s.Erase(2))
	writes(t, s, []byte{1}, 2, 2+8i)
}

// P12.1 Write: a sector is opened that is blank, not held, and least worn, and if all are held: ErrSpace.
func TestWriteHeld(t *testing.T) {
	d := device(t, small)
	good(t, d.Erase(0))
	good(t, d.Program(2, []byte{0}))
	s, _ := shelfOf(t, d)
	s.Hold(1)
	writes(t, s, make([]byte, most), 1, 3+8i)
	s.Hold(4)
	writes(t, s, make([]byte, most), 1, 5+8i)
	writes(t, s, make([]byte, most), 1, 0+8i)
	fails(t, s, make([]byte, most), api.ErrSpace)
	stands(t, s, api.Info{Class: api.Live, Open: true, Wear: 1, Age: 1}, api.Info{Held: true}, api.Info{Class: api.Dirty},
		api.Info{Class: api.Live, Age: 1}, api.Info{Held: true}, api.Info{Class: api.Live, Age: 1})
	fails(t, s, []byte{1}, api.ErrSpace)
}

// P12.1 A sector's age is the greatest one that it was told, and that was found there; it isn't told by what failed.
func TestAge(t *testing.T) {
	d, s := fresh(t)
	age := func(want uint64) {
		t.Helper()
		if got := s.Infos()[0].Age; got != want {
			t.Errorf("age %d, not %d", got, want)
		}
	}
	age(0)
	writes(t, s, []byte{1}, 0, 8i)
	age(0)
	for _, x := range [][2]uint64{{5, 5}, {4, 5}, {5, 5}, {6, 6}, {0, 6}, {math.MaxUint64, math.MaxUint64}, {math.MaxInt64, math.MaxUint64}} {
		_, err := s.Write([]byte{1}, x[0])
		good(t, err)
		age(x[1])
	}
	d, s = fresh(t)
	writes(t, s, frame(t, 40, 0), 5, 8i)
	age(5)
	d.Cut(0, 0, 0)
	fails(t, s, []byte{1}, api.ErrOff)
	age(5)
	d.On()
	s, _ = shelfOf(t, d)
	age(40)
	d, s = fresh(t)
	writes(t, s, frameOf(t, api.Item{Seq: 30, Ver: 70, Count: 1, Key: "a"}), 5, 8i)
	writes(t, s, frameOf(t, api.Item{Seq: 20, Ver: 10, Count: 1, Key: "b"}), 5, 41i)
	s, _ = shelfOf(t, d)
	age(30)
}

// P12.1 Flag: the flag of its state is programmed over the byte at the place; ErrArg of a state without one, ahead of all else.
func TestFlag(t *testing.T) {
	d, s := fresh(t)
	writes(t, s, frame(t, 7, 0), 7, 8i)
	writes(t, s, frame(t, 8, 0), 8, 41i)
	good(t, s.Flag(8i, api.Settled))
	good(t, s.Flag(41i, api.Obsolete))
	if b := content(t, d)[0]; b[8] != 63 || b[9] != 0 || b[10] != 25 || b[41] != 95 || d.Acts() != 5 {
		t.Errorf("the flags are %d, %d, by %d acts", b[8], b[41], d.Acts())
	}
	good(t, s.Flag(41i, api.Settled))
	if _, found := shelfOf(t, d); len(found) != 1 || !found[0].Settled || content(t, d)[0][41] != 31 {
		t.Errorf("found %+v", found)
	}
	before := content(t, d)
	noFlag := func(p api.Place) {
		t.Helper()
		for _, state := range []int{api.Blank, api.Live, api.Dirty, api.Torn, api.Written, 7, 99, -1, math.MaxInt, math.MinInt, 256 + api.Settled} {
			refused(t, "a state without a flag", s.Flag(p, state), api.ErrArg)
		}
	}
	noFlag(8i)
	for _, p := range []api.Place{512i, 6, 6 + 511i, -1, 8.5i, 1e300, complex(math.NaN(), 1), complex(0, math.Inf(1)), complex(0, -1)} {
		noFlag(p)
		refused(t, "no place", s.Flag(p, api.Settled), api.ErrArg)
		refused(t, "no place", s.Flag(p, api.Obsolete), api.ErrArg)
	}
	good(t, s.Flag(5+511i, api.Settled))
	before[5][511] = 191
	if l := content(t, d); !slices.EqualFunc(l, before, bytes.Equal) {
		t.Error("what else was programmed?")
	}
	d.Off()
	noFlag(8i)
	refused(t, "off", s.Flag(8i, api.Settled), api.ErrOff)
	refused(t, "off", s.Flag(512i, api.Obsolete), api.ErrOff)
	stands(t, s, api.Info{Class: api.Live, Open: true, Age: 8})
}

// P12.1 Flag: a sector that comes to be bad is held, and closed if it was open; one that is cut off stays as it was.
func TestFlagBad(t *testing.T) {
	d, s := fresh(t)
	writes(t, s, frame(t, 7, 0), 7, 8i)
	d.Spoil(0)
	d.Spoil(4)
	refused(t, "not the place of a flag", s.Flag(512i, api.Settled), api.ErrArg)
	refused(t, "no flag", s.Flag(8i, api.Written), api.ErrArg)
	stands(t, s, api.Info{Class: api.Live, Open: true, Age: 7})
	refused(t, "bad", s.Flag(8i, api.Settled), api.ErrBad)
	stands(t, s, api.Info{Class: api.Live, Held: true, Age: 7})
	refused(t, "bad", s.Flag(4+20i, api.Obsolete), api.ErrBad)
	stands(t, s, api.Info{Class: api.Live, Held: true, Age: 7}, api.Info{}, api.Info{}, api.Info{}, api.Info{Held: true})
	ends(t, s, 41)
	writes(t, s, frame(t, 8, 0), 8, 1+8i)
	d.Cut(0, 0, 64)
	refused(t, "cut off", s.Flag(1+8i, api.Settled), api.ErrOff)
	d.On()
	writes(t, s, frame(t, 9, 0), 9, 1+41i)
	if _, found := shelfOf(t, d); len(found) != 3 || found[0].Settled || !found[1].Settled || found[2].Settled {
		t.Errorf("found %+v", found)
	}
}

// P12.1 Erase: of a live one the death of its head, then the erase; of a dirty one the erase; of a blank one nothing.
func TestErase(t *testing.T) {
	d := device(t, small)
	good(t, d.Program(3, []byte{0, 1}))
	s, _ := shelfOf(t, d)
	writes(t, s, make([]byte, most), 7, 8i)
	writes(t, s, frame(t, 9, 0), 9, 1+8i)
	s.Need(0, 40)
	for _, c := range []struct{ sector, acts, wear int }{{0, 2, 1}, {3, 1, 1}, {2, 0, 0}, {0, 0, 1}, {3, 0, 1}} {
		acts := d.Acts()
		good(t, s.Erase(c.sector))
		if d.Acts()-acts != c.acts || d.Wear(c.sector) != c.wear || s.Infos()[c.sector].Class != api.Blank || s.End(c.sector) != 0 {
			t.Errorf("erasing sector %d: %d acts, wear %d, %+v", c.sector, d.Acts()-acts, d.Wear(c.sector), s.Infos()[c.sector])
		}
	}
	if s.Infos()[0].Need != 40 {
		t.Error("erasing tells what is needed")
	}
	if l := content(t, d); bytes.Count(l[0], []byte{255}) != 512 || bytes.Count(l[3], []byte{255}) != 512 {
		t.Error("they aren't blank")
	}
	for i, want := range []api.Place{2 + 8i, 4 + 8i, 5 + 8i, 8i, 3 + 8i} {
		writes(t, s, make([]byte, most), uint64(20+i), want)
	}
	good(t, s.Erase(1))
	writes(t, s, make([]byte, most), 30, 1+8i)
}

// P12.1 Erase: the head is dead ahead of the erase.
func TestEraseDeath(t *testing.T) {
	d, s := fresh(t)
	writes(t, s, frame(t, 7, 0), 7, 8i)
	writes(t, s, make([]byte, most), 7, 1+8i)
	before := content(t, d)[0]
	d.Cut(1, 0, 0)
	refused(t, "cut off", s.Erase(0), api.ErrOff)
	d.On()
	if b := content(t, d)[0]; !bytes.Equal(b[:8], make([]byte, 8)) || !bytes.Equal(b[8:], before[8:]) {
		t.Errorf("%v was left", b[:60])
	}
}

// P12.1 Erase: ErrArg, if there is no such sector, or it is open, or held, blank ones too, ahead of the device's errors; nothing is done.
func TestEraseRefused(t *testing.T) {
	d, s := fresh(t)
	writes(t, s, frame(t, 7, 0), 7, 8i)
	writes(t, s, make([]byte, most), 7, 1+8i)
	s.Hold(0)
	s.Hold(4)
	was, acts := s.Infos(), d.Acts()
	for range 2 {
		for _, sector := range []int{-1, 6, 7, 64, math.MaxInt, math.MinInt, 0, 1, 4} {
			refused(t, "Erase", s.Erase(sector), api.ErrArg)
		}
		good(t, s.Erase(2))
		d.Off()
	}
	if !slices.Equal(s.Infos(), was) || d.Acts() != acts || s.End(0) != 41 {
		t.Errorf("they stand %+v, not %+v", s.Infos(), was)
	}
}

// P12.1 Erase: behind an act's error it is Dirty, if its death was programmed, or it was Dirty; else as it was.
func TestEraseCutOff(t *testing.T) {
	for _, n := range []int{0, 1, 3, 7, 8, 20} {
		d, s := fresh(t)
		writes(t, s, frame(t, 7, 0), 7, 8i)
		writes(t, s, make([]byte, most), 7, 1+8i)
		class := func(want, end, wear int) {
			t.Helper()
			if x := s.Infos()[0]; x != (api.Info{Class: want, Age: 7, Wear: wear}) || s.End(0) != end {
				t.Errorf("cut off behind %d bytes: %+v, end %d", n, x, s.End(0))
			}
		}
		d.Cut(0, n, 1)
		refused(t, "the death is cut off", s.Erase(0), api.ErrOff)
		class(api.Live, 41, 0)
		refused(t, "it is off", s.Erase(0), api.ErrOff)
		class(api.Live, 41, 0)
		d.On()
		d.Cut(1, n, 1)
		refused(t, "the erase is cut off", s.Erase(0), api.ErrOff)
		class(api.Dirty, 0, 1)
		refused(t, "it is off", s.Erase(0), api.ErrOff)
		class(api.Dirty, 0, 1)
		d.On()
		d.Cut(0, n, 1)
		refused(t, "the erase of a dirty one is cut off", s.Erase(0), api.ErrOff)
		class(api.Dirty, 0, 2)
		d.On()
		good(t, s.Erase(0))
		class(api.Blank, 0, 3)
	}
}

// P12.1 Erase: a sector at which an act answers ErrBad is held, as it was else; then ErrArg.
func TestEraseBad(t *testing.T) {
	d := device(t, small)
	good(t, d.Program(3, []byte{0, 1}))
	s, _ := shelfOf(t, d)
	writes(t, s, frame(t, 7, 0), 7, 8i)
	writes(t, s, make([]byte, most), 7, 1+8i)
	for _, sector := range []int{0, 2, 3} {
		d.Spoil(sector)
	}
	acts := d.Acts()
	refused(t, "a live one", s.Erase(0), api.ErrBad)
	refused(t, "a blank one", s.Erase(2), api.OK)
	refused(t, "a dirty one", s.Erase(3), api.ErrBad)
	stands(t, s, api.Info{Class: api.Live, Held: true, Age: 7}, api.Info{Class: api.Live, Open: true, Age: 7}, api.Info{}, api.Info{Class: api.Dirty, Held: true})
	ends(t, s, 41, 512)
	refused(t, "a live one", s.Erase(0), api.ErrArg)
	refused(t, "a dirty one", s.Erase(3), api.ErrArg)
	if d.Acts() != acts {
		t.Error("an act was done")
	}
}

// P12.1 Write: a bad sector is held, and closed; the next one goes elsewhere.
func TestWriteBad(t *testing.T) {
	d, s := fresh(t)
	writes(t, s, frame(t, 7, 0), 7, 8i)
	d.Spoil(0)
	d.Spoil(1)
	fails(t, s, frame(t, 8, 0), api.ErrBad)
	stands(t, s, api.Info{Class: api.Live, Held: true, Age: 7})
	ends(t, s, 41)
	fails(t, s, frame(t, 8, 0), api.ErrBad)
	stands(t, s, api.Info{Class: api.Live, Held: true, Age: 7}, api.Info{Held: true})
	ends(t, s, 41)
	writes(t, s, frame(t, 8, 0), 8, 2+8i)
	// The open one is closed, as soon as the next one was to be opened.
	d.Spoil(3)
	fails(t, s, make([]byte, most), api.ErrBad)
	stands(t, s, api.Info{Class: api.Live, Held: true, Age: 7}, api.Info{Held: true}, api.Info{Class: api.Live, Age: 8}, api.Info{Held: true})
	writes(t, s, frame(t, 9, 0), 9, 4+8i)
	d.Spoil(5)
	fails(t, s, make([]byte, most), api.ErrBad)
	fails(t, s, make([]byte, most), api.ErrSpace)
}

// P12.1 Write: behind what was cut off, or refused because it is off, the sector is closed; what stands there isn't written over.
func TestWriteCutOff(t *testing.T) {
	for _, n := range []int{0, 1, 20, 33, 40} {
		d, s := fresh(t)
		writes(t, s, frame(t, 7, 0), 7, 8i)
		d.Cut(0, n, 0)
		fails(t, s, frame(t, 8, 0), api.ErrOff)
		closed := api.Info{Class: api.Live, Age: 7}
		stands(t, s, closed)
		ends(t, s, 41)
		d.On()
		before := content(t, d)[0]
		writes(t, s, frame(t, 9, 0), 9, 1+8i)
		d.Off()
		fails(t, s, frame(t, 10, 0), api.ErrOff)
		stands(t, s, closed, api.Info{Class: api.Live, Age: 9})
		d.On()
		writes(t, s, frame(t, 11, 0), 11, 2+8i)
		if l := content(t, d); !bytes.Equal(l[0], before) || !bytes.Equal(l[1], live(small, frame(t, 9, 0)...)) {
			t.Error("what was cut off, or refused, was written over")
		}
		// Behind the head of a sector that was just opened.
		d.Cut(1, n, 0)
		fails(t, s, make([]byte, most), api.ErrOff)
		stands(t, s, closed, api.Info{Class: api.Live, Age: 9}, api.Info{Class: api.Live, Age: 11}, api.Info{Class: api.Live})
		ends(t, s, 41, 41, 41, 8)
		d.On()
		writes(t, s, frame(t, 12, 0), 12, 4+8i)
	}
}

// P12.1 Write: a head that was cut off isn't written over until its sector was erased.
func TestHeadCutOff(t *testing.T) {
	for _, n := range []int{0, 1, 7, 8, 99} {
		d, s := fresh(t)
		writes(t, s, make([]byte, 400), 7, 8i)
		d.Cut(0, n, 0)
		fails(t, s, make([]byte, most), api.ErrOff)
		stands(t, s, api.Info{Class: api.Live, Age: 7}, api.Info{Class: api.Dirty})
		ends(t, s, 408)
		d.On()
		left := content(t, d)[1]
		for i := range 4 {
			writes(t, s, make([]byte, most), 8, at(i+2, 8))
		}
		fails(t, s, frame(t, 9, 0), api.ErrSpace)
		if !bytes.Equal(content(t, d)[1], left) {
			t.Error("the head that was cut off was written over")
		}
		good(t, s.Erase(1))
		writes(t, s, frame(t, 9, 0), 9, 1+8i)
	}
}

// P12.1 Write: as long as the device is off no blank sector is used up.
func TestWriteOff(t *testing.T) {
	d, s := fresh(t)
	d.Off()
	for range 20 {
		fails(t, s, frame(t, 7, 0), api.ErrOff)
	}
	stands(t, s)
	d.On()
	writes(t, s, make([]byte, 400), 7, 8i)
	d.Off()
	for range 20 {
		fails(t, s, make([]byte, most), api.ErrOff)
	}
	stands(t, s, api.Info{Class: api.Live, Age: 7})
	if l, n, ok := s.Plan([]int{104}); len(l) != 1 || l[0] != 1+8i || n != 1 || !ok {
		t.Errorf("planned %v, %d, %t", l, n, ok)
	}
	d.On()
	writes(t, s, frame(t, 8, 0), 8, 1+8i)
}

// P12.1 Need and Hold: of that sector alone; of no such one nothing. A sector that is held stays open.
func TestNeedHold(t *testing.T) {
	d, s := fresh(t)
	for _, sector := range []int{-1, 6, 64, math.MaxInt, math.MinInt} {
		s.Need(sector, 5)
		s.Hold(sector)
	}
	stands(t, s)
	s.Need(0, 5)
	s.Need(5, math.MaxInt)
	s.Need(3, -7)
	s.Need(2, 9)
	s.Need(2, 0)
	s.Hold(4)
	s.Hold(4)
	stands(t, s, api.Info{Need: 5}, api.Info{}, api.Info{}, api.Info{Need: -7}, api.Info{Held: true}, api.Info{Need: math.MaxInt})
	writes(t, s, frame(t, 7, 0), 7, 8i)
	s.Hold(0)
	s.Need(0, 33)
	stands(t, s, api.Info{Class: api.Live, Open: true, Held: true, Age: 7, Need: 33}, api.Info{}, api.Info{}, api.Info{Need: -7}, api.Info{Held: true}, api.Info{Need: math.MaxInt})
	writes(t, s, frame(t, 8, 0), 8, 41i)
	if d.Acts() != 3 {
		t.Errorf("%d acts", d.Acts())
	}
}

// P12.1 Infos: new memory, wear as the device tells, in order, off, too.
func TestInfos(t *testing.T) {
	d := device(t, great)
	s, _ := shelfOf(t, d)
	l := s.Infos()
	if len(l) != 64 {
		t.Fatalf("%d sectors", len(l))
	}
	for i := range l {
		l[i] = api.Info{Class: api.Dirty, Held: true, Wear: 9, Age: 9, Need: 9}
	}
	stands(t, s)
	good(t, d.Erase(63))
	good(t, d.Erase(63))
	good(t, d.Erase(1))
	d.Off()
	if l = s.Infos(); l[63] != (api.Info{Wear: 2}) || l[1] != (api.Info{Wear: 1}) || l[0] != (api.Info{}) {
		t.Errorf("they stand %+v", l)
	}
}

// P12.1 End: behind the last byte that was written; 0, if there is no such sector, or it isn't Live.
func TestEnd(t *testing.T) {
	d := device(t, great)
	good(t, d.Program(7, []byte{1}))
	s, _ := shelfOf(t, d)
	writes(t, s, make([]byte, 4088), 1, 8i)
	writes(t, s, make([]byte, 4087), 1, 1+8i)
	writes(t, s, make([]byte, 2), 1, 2+8i)
	ends(t, s, 4096, 4095, 10)
	for _, sector := range []int{-1, 64, 255, math.MaxInt, math.MinInt} {
		if n := s.End(sector); n != 0 {
			t.Errorf("the end of sector %d: %d", sector, n)
		}
	}
	good(t, s.Erase(0))
	ends(t, s, 0, 4095, 10)
}

// P12.1 (R3): the bytes that are handed in stay as they were, and aren't kept.
func TestBytesStay(t *testing.T) {
	d, s := fresh(t)
	b := frame(t, 7, 9)
	was := slices.Clone(b)
	writes(t, s, b, 7, 8i)
	if !bytes.Equal(b, was) {
		t.Error("they were changed")
	}
	clear(b)
	if !bytes.Equal(content(t, d)[0], live(small, was...)) {
		t.Error("they were kept")
	}
}
