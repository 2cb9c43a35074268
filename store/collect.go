package store

import (
	"flint/api"
	"flint/pick"
	"flint/rec"
	"flint/ring"
)

// makeRoom collects up to when there is room for items of these sizes.
func (s *Store) makeRoom(sizes []int) api.Errno {
	most := turns(s.device.Geometry())
	for n := 0; !s.hasRoom(sizes); n++ {
		if n == 2*most {
			return api.ErrSpace
		}
		if err := s.turn(n >= most); err != api.OK {
			return err
		}
	}
	return api.OK
}

// hasRoom tells whether items of these sizes can be written, and the blank sectors that are kept back are left.
func (s *Store) hasRoom(sizes []int) bool {
	_, opened, ok := s.shelf.Plan(sizes)
	return ok && pick.Blank(s.shelf.Infos())-opened >= api.Reserve
}

// turn is a turn of collecting; one that takes the oldest sector, if it is to.
func (s *Store) turn(oldest bool) api.Errno {
	if err := s.settle(); err != api.OK {
		return err
	}
	needed := s.tellNeed()
	sector, ok := s.choose(oldest)
	if !ok {
		return api.ErrSpace
	}
	if err := s.move(needed[sector]); err != api.OK {
		return err
	}
	if err := s.shelf.Erase(sector); err != api.OK {
		return err
	}
	s.drop(func(x *item) bool { return x.sector() == sector })
	return api.OK
}

// settle settles all items that count.
func (s *Store) settle() api.Errno {
	for _, x := range s.items {
		if !x.counts || x.Settled {
			continue
		}
		switch err := s.shelf.Flag(x.At, api.Settled); err {
		case api.OK:
			x.Settled = true
		case api.ErrBad:
			s.holdRing(x.Item.Seq)
		default:
			return err
		}
	}
	return api.OK
}

// holdRing keeps a ring whole: an item of it counts by that alone.
func (s *Store) holdRing(seq uint64) {
	for _, x := range s.items {
		if x.Item.Seq == seq {
			s.shelf.Hold(x.sector())
		}
	}
}

// tellNeed tells of each sector how much of it is needed, and answers what is.
func (s *Store) tellNeed() [][]*item {
	needed := make([][]*item, s.device.Geometry().Sectors)
	bytes := make([]int, len(needed))
	for _, x := range s.needed() {
		needed[x.sector()] = append(needed[x.sector()], x)
		bytes[x.sector()] += x.Size
	}
	for sector, n := range bytes {
		s.shelf.Need(sector, n)
	}
	return needed
}

// choose is the sector that is collected.
func (s *Store) choose(oldest bool) (int, bool) {
	infos := s.shelf.Infos()
	switch {
	case pick.Blank(infos) == 0:
		return pick.AtOnce(infos)
	case oldest:
		return pick.Oldest(infos)
	}
	return pick.Erase(infos)
}

// move writes items again, if there are any.
func (s *Store) move(items []*item) api.Errno {
	if len(items) == 0 {
		return api.OK
	}
	var l []api.Pair
	var vers []uint64
	for _, x := range items {
		l, vers = append(l, x.pair()), append(vers, x.Item.Ver)
	}
	return s.write(l, vers)
}

// write writes pairs of these versions as a ring of the next number, that counts once all of it is written.
func (s *Store) write(l []api.Pair, vers []uint64) api.Errno {
	places, _, ok := s.shelf.Plan(sizesOf(l))
	if !ok {
		return api.ErrSpace
	}
	linked, err := ring.Link(s.number, l, vers, places)
	if err != api.OK {
		return err
	}
	// A ring that is left undone takes its number, too: whoever had it again could make that ring whole.
	s.number++
	first := len(s.items)
	for _, x := range linked {
		if err := s.writeItem(x); err != api.OK {
			return err
		}
	}
	for _, x := range s.items[first:] {
		// No version is above that of a new ring; of a version that is moved the ring is newer.
		x.counts, s.newest[x.Item.Key] = true, x
	}
	return api.OK
}

// writeItem writes an item, that doesn't count yet.
func (s *Store) writeItem(x api.Item) api.Errno {
	writing, err := ring.Put(x)
	if err != api.OK {
		return err
	}
	frame, err := rec.Put(writing)
	if err != api.OK {
		return err
	}
	at, err := s.shelf.Write(frame, x.Seq)
	if err != api.OK {
		return err
	}
	s.items = append(s.items, &item{Found: api.Found{At: at, Size: len(frame), Item: x}})
	return api.OK
}
