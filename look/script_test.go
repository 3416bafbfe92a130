package look_test

import (
	"slices"
	"testing"

	"stepstone/api"
	"stepstone/look"
)

// shown is a cursor, and the plain one that it is held against.
type shown struct {
	c       *look.Cursor
	r       *row
	version uint64
}

// script is a kept set with cursors, and what it has, in the plainest way.
type script struct {
	t       *testing.T
	x       *look.Kept
	keys    []uint64
	version uint64
	cursors []*shown
	number  func(n int) int
}

func newScript(t *testing.T, tag int, seed uint64) *script {
	return &script{t: t, x: kept(t, tag), number: numbers(seed)}
}

// now lets the keys be these, which rise; the version is one more if they are others.
func (s *script) now(keys []uint64) {
	if !slices.Equal(keys, s.keys) {
		s.keys = keys
		s.version++
	}
}

func (s *script) insert(k uint64) {
	s.t.Helper()
	want := api.ErrExists
	if !slices.Contains(s.keys, k) {
		want = api.OK
		s.now(rising(append(slices.Clone(s.keys), k)))
	}
	same(s.t, s.x.Insert(k), want, "Insert", k)
}

func (s *script) delete(k uint64) {
	s.t.Helper()
	want := api.ErrNone
	if slices.Contains(s.keys, k) {
		want = api.OK
		s.without(k, k)
	}
	same(s.t, s.x.Delete(k), want, "Delete", k)
}

func (s *script) without(from, to uint64) {
	s.now(slices.DeleteFunc(slices.Clone(s.keys), func(k uint64) bool { return from <= k && k <= to }))
}

func (s *script) wipe(from, to uint64) {
	s.t.Helper()
	want := counted{0, api.ErrOrder}
	if from <= to {
		want = counted{len(between(s.keys, from, to)), api.OK}
		s.without(from, to)
	}
	same(s.t, counts(s.x.Wipe(from, to)), want, "Wipe", from, to)
}

func (s *script) clear() {
	s.now(nil)
	s.x.Clear()
}

// swap is for the same keys, or for some others, kept in any way.
func (s *script) swap(tag int, more ...uint64) {
	s.t.Helper()
	keys := rising(append(slices.Clone(s.keys), more...))
	s.x.Swap(newSet(s.t, tag, uint64(tag), api.MaxCap, keys...))
	s.now(keys)
}

func (s *script) open(from, to uint64) {
	s.t.Helper()
	c, e := s.x.Open(from, to)
	if from > to {
		same(s.t, e, api.ErrOrder, "Open", from, to)
		same(s.t, c, nil, "Open", from, to)
		return
	}
	same(s.t, e, api.OK, "Open", from, to)
	s.cursors = append(s.cursors, &shown{c, &row{keys: between(s.keys, from, to)}, s.version})
	if len(s.cursors) > 6 {
		s.cursors = s.cursors[1:]
	}
}

// move lets one of the cursors tell something.
func (s *script) move(k uint64) {
	s.t.Helper()
	if len(s.cursors) == 0 {
		return
	}
	y := s.cursors[s.number(len(s.cursors))]
	if y.version != s.version {
		stale(s.t, y.c, "behind a change")
		return
	}
	same(s.t, y.c.Stale(), false, "Stale")
	switch s.number(10) {
	case 0, 1, 2, 3:
		same(s.t, tell(y.c.Next()), y.r.next(), "Next")
	case 4, 5, 6:
		same(s.t, tell(y.c.Prev()), y.r.prev(), "Prev")
	case 7, 8:
		same(s.t, tell(y.c.Seek(k)), y.r.seek(k), "Seek", k)
	case 9:
		n := 1 + s.number(5)
		list(s.t, rest(y.c, n), y.r.rest(n), "Rest")
	}
}

func (s *script) change(k uint64) {
	s.t.Helper()
	switch s.number(20) {
	case 0, 1, 2, 3, 4, 5, 6, 7, 8:
		s.insert(k)
	case 9, 10, 11, 12, 13:
		s.delete(k)
	case 14, 15:
		s.wipe(k, k+uint64(s.number(50)))
	case 16:
		s.swap(1 + s.number(5))
	case 17:
		s.swap(1+s.number(5), k, k+7)
	case 18:
		s.x.Swap(nil)
	case 19:
		if s.number(20) == 0 {
			s.clear()
		}
	}
	same(s.t, s.x.Version(), s.version, "Version")
}

// TestScripts for each tag, against plain lists.
func TestScripts(t *testing.T) {
	for _, tag := range tags() {
		for seed := range uint64(4) {
			s := newScript(t, tag, seed)
			key := func() uint64 {
				k := uint64(s.number(120))
				switch s.number(5) {
				case 0:
					return greatest - k
				case 1:
					return k * 0x9e3779b97f4a7c15
				}
				return k
			}
			for n := range 6000 {
				switch s.number(8) {
				case 0:
					s.change(key())
				case 1:
					s.open(key(), key())
				default:
					s.move(key())
				}
				if n%100 == 0 {
					has(t, s.x, s.keys, s.version, "the script's keys", tag, seed, n)
				}
			}
			has(t, s.x, s.keys, s.version, "the script's keys", tag, seed)
		}
	}
}
