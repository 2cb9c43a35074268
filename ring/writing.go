package ring

import (
	"flint/api"
	"flint/pack"
	"flint/place"
)

// Bytes of the numbers of an item's writing.
const (
	numberBytes = 8
	indexBytes  = 1
	goneBytes   = 1
)

// gone is the byte of an item that is gone; that of one that is there is 0.
const gone = 1

// Put is an item's writing.
func Put(x api.Item) ([]byte, api.Errno) {
	if !May(x) {
		return nil, api.ErrArg
	}
	b := pack.Put(nil, numberBytes, x.Seq)
	b = pack.Put(b, numberBytes, x.Ver)
	b = pack.Put(b, indexBytes, uint64(x.Index))
	b = pack.Put(b, indexBytes, uint64(x.Count))
	at := place.Put(x.Next)
	b = append(b, at[:]...)
	b = pack.Put(b, goneBytes, goneAs(x.Gone))
	b = pack.PutText(b, x.Key)
	return pack.PutText(b, x.Value), api.OK
}

// Get is the item whose writing this is.
func Get(b []byte) (api.Item, api.Errno) {
	r := reader{b: b}
	x := api.Item{
		Seq:   r.number(numberBytes),
		Ver:   r.number(numberBytes),
		Index: int(r.number(indexBytes)),
		Count: int(r.number(indexBytes)),
		Next:  r.place(),
		Gone:  r.isGone(),
		Key:   r.text(api.MaxKey),
		Value: r.text(api.MaxValue),
	}
	switch {
	case r.err != api.OK:
		return api.Item{}, r.err
	case r.at != len(b):
		return api.Item{}, api.ErrForm
	case !May(x):
		return api.Item{}, api.ErrArg
	}
	return x, api.OK
}

// goneAs is how it is written whether an item is gone.
func goneAs(isGone bool) uint64 {
	if isGone {
		return gone
	}
	return 0
}

// reader goes through a writing from the front; the first error stays, and ends all reading.
type reader struct {
	b   []byte
	at  int
	err api.Errno
}

// number reads a number of n bytes.
func (r *reader) number(n int) uint64 {
	if r.err != api.OK {
		return 0
	}
	var x uint64
	x, r.at, r.err = pack.Get(r.b, r.at, n)
	return x
}

// place reads a place.
func (r *reader) place() api.Place {
	var b [3]byte
	for i := range b {
		b[i] = byte(r.number(1))
	}
	return place.Get(b)
}

// isGone reads whether an item is gone.
func (r *reader) isGone() bool {
	x := r.number(goneBytes)
	if x > gone {
		r.err = api.ErrForm
	}
	return x == gone
}

// text reads a text of at most so many bytes.
func (r *reader) text(most int) string {
	if r.err != api.OK {
		return ""
	}
	var s string
	s, r.at, r.err = pack.GetText(r.b, r.at, most)
	return s
}
