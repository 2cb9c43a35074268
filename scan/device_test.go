package scan

import (
	"bytes"
	"math"
	"slices"
	"testing"

	"flint/api"
	"flint/nor"
)

// device is a new one whose sectors hold these bytes.
func device(t *testing.T, g api.Geometry, sectors map[int][]byte) *nor.Device {
	t.Helper()
	d, err := nor.New(g)
	if err != api.OK {
		t.Fatalf("a device of %v: %v", g, err)
	}
	for i, b := range sectors {
		if err := d.Program(complex(float64(i), 0), b); err != api.OK {
			t.Fatalf("sector %d of %v: %v", i, g, err)
		}
	}
	return d
}

// several are sectors of all kinds, in one of many.
func several(t *testing.T, g api.Geometry) map[int][]byte {
	f := func(n int) []byte { return frame(flagsWritten, writing(t, item(n))) }
	return map[int][]byte{
		0:             live(g, f(1), f(2), f(3)),
		2:             live(g),
		3:             make([]byte, 9),
		4:             live(g, f(4), []byte{1}, f(5)),
		g.Sectors - 1: live(g, filler(20), f(6)),
	}
}

// P8.1: of a device what is found in all of its sectors, in order, each with its number.
func TestAll(t *testing.T) {
	for _, g := range some() {
		sectors := several(t, g)
		d := device(t, g, sectors)
		l, err := All(d)
		if err != api.OK || len(l) != g.Sectors {
			t.Fatalf("%v: %d sectors, %v", g, len(l), err)
		}
		for i, s := range l {
			b := bytes.Repeat([]byte{255}, g.Size)
			copy(b, sectors[i])
			if want := Of(g, i, b); !same(s, want) {
				t.Errorf("sector %d of %v: %+v, not %+v", i, g, s, want)
			}
		}
		last := l[g.Sectors-1]
		if len(last.Found) != 1 || last.Found[0] != foundAt(g.Sectors-1, 28, false, item(6)) {
			t.Errorf("the last sector of %v: %+v", g, last)
		}
		if len(l[0].Found) != 3 || l[1].Class != api.Blank || l[2].End != 8 || l[3].Class != api.Dirty || len(l[4].Found) != 1 || !l[4].Full {
			t.Errorf("%v: %+v", g, l)
		}
	}
}

// P8.1: of a new device all sectors are blank.
func TestAllOfNew(t *testing.T) {
	for _, g := range some() {
		l, err := All(device(t, g, nil))
		if err != api.OK || len(l) != g.Sectors {
			t.Fatalf("%v: %d sectors, %v", g, len(l), err)
		}
		for i, s := range l {
			if !same(s, Sector{Class: api.Blank}) {
				t.Errorf("sector %d of %v: %+v", i, g, s)
			}
		}
	}
}

// P8.1: of a device that is off, or none, nothing is found.
func TestAllOff(t *testing.T) {
	refused := func(what string, d *nor.Device) {
		t.Helper()
		if l, err := All(d); len(l) != 0 || err != api.ErrOff {
			t.Errorf("%s: %+v, %v", what, l, err)
		}
	}
	refused("nil", nil)
	d := device(t, small, several(t, small))
	was, _ := All(d)
	d.Off()
	refused("off", d)
	refused("off, again", d)
	d.On()
	d.Cut(0, 3, 0)
	d.Erase(1)
	refused("cut off", d)
	d.On()
	if l, err := All(d); err != api.OK || !slices.EqualFunc(l, was, same) {
		t.Errorf("on again: %+v, %v", l, err)
	}
}

// P8.1: scanning is no act: it changes nothing, isn't cut off, and goes on bad sectors, too.
func TestAllIsNoAct(t *testing.T) {
	d := device(t, small, several(t, small))
	was, _ := All(d)
	acts := d.Acts()
	for i := range small.Sectors {
		d.Spoil(i)
	}
	d.Cut(0, 0, 0)
	for range 3 {
		if l, err := All(d); err != api.OK || !slices.EqualFunc(l, was, same) {
			t.Errorf("%+v, %v", l, err)
		}
	}
	if d.Acts() != acts || !d.IsOn() || d.Offs() != 0 {
		t.Error("scanning is an act")
	}
}

// P8.1 (R3): what is answered is new memory.
func TestAllIsNew(t *testing.T) {
	d := device(t, small, several(t, small))
	first, _ := All(d)
	second, _ := All(d)
	for _, s := range first {
		clear(s.Found)
		_ = append(s.Found, foundAt(1, 8, false, item(9)))
	}
	clear(first)
	if third, _ := All(d); !slices.EqualFunc(second, third, same) || len(second[0].Found) != 3 || second[0].Found[2] != foundAt(0, 92, false, item(3)) {
		t.Errorf("answers share memory: %+v", second)
	}
}

// numbered is a sector in which items of these Seqs and Vers were found, turn by turn.
func numbered(n ...uint64) Sector {
	s := Sector{Class: api.Live}
	for i := 0; i < len(n); i += 2 {
		s.Found = append(s.Found, api.Found{Item: api.Item{Seq: n[i], Ver: n[i+1]}})
	}
	return s
}

// P8.1: the next number is one more than the greatest of all Seqs and Vers, 1 of none, and doesn't go round.
func TestNext(t *testing.T) {
	const most = math.MaxUint64
	for _, c := range []struct {
		l    []Sector
		want uint64
	}{
		{nil, 1},
		{[]Sector{}, 1},
		{[]Sector{{}}, 1},
		{[]Sector{{Class: api.Dirty, Full: true}, {Class: api.Live, End: 900}, {Class: api.Blank}}, 1},
		{[]Sector{numbered(0, 0)}, 1},
		{[]Sector{numbered(1, 0)}, 2},
		{[]Sector{numbered(0, 1)}, 2},
		{[]Sector{numbered(7, 3)}, 8},
		{[]Sector{numbered(3, 7)}, 8},
		{[]Sector{numbered(7, 7)}, 8},
		{[]Sector{numbered(9, 1, 3, 2)}, 10},
		{[]Sector{numbered(3, 2, 1, 9)}, 10},
		{[]Sector{numbered(1, 2, 9, 1, 3, 4)}, 10},
		{[]Sector{numbered(9, 1), {}, numbered(3, 2)}, 10},
		{[]Sector{{}, numbered(3, 2), numbered(1, 9)}, 10},
		{[]Sector{numbered(1<<63, 1<<63-1)}, 1<<63 + 1},
		{[]Sector{numbered(1<<63-1, 1<<63)}, 1<<63 + 1},
		{[]Sector{numbered(most-2, most-1)}, most},
		{[]Sector{numbered(most, 1)}, most},
		{[]Sector{numbered(1, most)}, most},
		{[]Sector{numbered(most, most)}, most},
		{[]Sector{numbered(most, 1, 2, 3), numbered(4, 5)}, most},
		{[]Sector{{Class: -1, End: -5, Found: numbered(4, 5).Found}, {Class: api.Dirty, Found: numbered(6, 5).Found}}, 7},
	} {
		was := slices.Clone(c.l)
		if got := Next(c.l); got != c.want {
			t.Errorf("Next(%+v) = %d, not %d", c.l, got, c.want)
		}
		if !slices.EqualFunc(c.l, was, same) {
			t.Errorf("Next changed %+v", was)
		}
	}
}

// P8.1: settled items and others, of whole rings or not, all have their numbers taken.
func TestNextOfDevice(t *testing.T) {
	x, y, z := item(1), item(2), item(3)
	x.Seq, y.Ver, z.Seq = 700, 800, 900
	for _, c := range []struct {
		flags []byte
		want  uint64
	}{
		{[]byte{flagsWritten, flagsSettled, flagsWritten}, 901},
		{[]byte{flagsSettled, flagsWritten, flagsObsolete}, 801},
		{[]byte{flagsSettled, flagsObsolete, flagsBoth}, 701},
		{[]byte{flagsBoth, flagsObsolete, flagsBoth}, 1},
	} {
		b := live(small, frame(c.flags[0], writing(t, x)), frame(c.flags[1], writing(t, y)), frame(c.flags[2], writing(t, z)))
		l, err := All(device(t, small, map[int][]byte{3: b}))
		if got := Next(l); got != c.want || err != api.OK {
			t.Errorf("behind %v: %d, %v, not %d", c.flags, got, err, c.want)
		}
	}
}
