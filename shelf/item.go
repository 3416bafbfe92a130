package shelf

import (
	"stepstone/api"
	"stepstone/dict"
	"stepstone/face"
	"stepstone/look"
)

// item is what an open handle has.
type item struct {
	made Options
	// kept has a version and cursors of the keys; of a map it is asked in the map's place.
	kept *look.Kept
	// pairs is nil of a set.
	pairs *dict.Map
	// valued is how often no key, but a value was changed: kept, whose cursors such a change leaves as they are, doesn't count it.
	valued uint64
	cursor *look.Cursor
}

// newItem is an empty one.
func newItem(o Options) (item, api.Errno) {
	if o.Map {
		m, e := dict.New(o.Tag, o.Seed, o.Limit)
		if e != api.OK {
			return item{}, e
		}
		return item{made: o, kept: look.Keep(m), pairs: m}, api.OK
	}
	s, e := face.New(o.Tag, o.Seed, o.Limit)
	if e != api.OK {
		return item{}, e
	}
	return item{made: o, kept: look.Keep(s)}, api.OK
}

// keys is the Set that has the keys: of a map the one within, which may count them faster than the map itself.
func (x *item) keys() face.Set {
	if x.pairs != nil {
		return x.pairs.Set
	}
	return x.kept.Set
}

func (x *item) put(k, v uint64) api.Errno {
	e := x.kept.Insert(k)
	if e != api.OK && e != api.ErrExists {
		return e
	}
	if was, _ := x.pairs.Get(k); e == api.ErrExists && was != v {
		x.valued++
	}
	return x.pairs.Put(k, v)
}

func (x *item) wipe(from, to uint64) (int, api.Errno) {
	if x.pairs == nil {
		return x.kept.Wipe(from, to)
	}
	n, e := face.Count(x.keys(), from, to)
	if e != api.OK {
		return 0, e
	}
	left, e := x.without(from, to)
	if e != api.OK {
		return 0, e
	}
	x.swap(left)
	return n, api.OK
}

// without is a new map of the pairs whose keys aren't from from up to to.
func (x *item) without(from, to uint64) (*dict.Map, api.Errno) {
	m, e := dict.New(x.made.Tag, x.made.Seed, x.made.Limit)
	if e != api.OK {
		return nil, e
	}
	for k, v := range x.pairs.Pairs() {
		if from <= k && k <= to {
			continue
		}
		if e := m.Put(k, v); e != api.OK {
			return nil, e
		}
	}
	return m, api.OK
}

func (x *item) join(op int, l []face.Set) api.Errno {
	if x.pairs != nil {
		return api.ErrKind
	}
	s, e := face.Join(op, x.made.Tag, x.made.Seed, x.made.Limit, l...)
	if e == api.OK {
		x.kept.Swap(s)
	}
	return e
}

func (x *item) encode() ([]byte, api.Errno) {
	if x.pairs != nil {
		return x.pairs.Encode()
	}
	return face.Encode(x.keys())
}

func (x *item) decode(p []byte) api.Errno {
	if x.pairs != nil {
		m, e := dict.Decode(p, x.made.Tag, x.made.Seed, x.made.Limit)
		if e == api.OK {
			x.swap(m)
		}
		return e
	}
	s, e := face.Decode(p, x.made.Tag, x.made.Seed, x.made.Limit)
	if e == api.OK {
		x.kept.Swap(s)
	}
	return e
}

// swap lets a map have the pairs of m, which is kept.
func (x *item) swap(m *dict.Map) {
	was, version := x.pairs, x.kept.Version()
	x.pairs = m
	x.kept.Swap(m)
	if x.kept.Version() == version && otherValues(was, m) {
		x.valued++
	}
}

// otherValues tells whether maps of the same keys have them with other values.
func otherValues(a, b *dict.Map) bool {
	for k, v := range a.Pairs() {
		if o, _ := b.Get(k); o != v {
			return true
		}
	}
	return false
}
