package look_test

import (
	"math"
	"slices"
	"testing"

	"stepstone/api"
	"stepstone/face"
	"stepstone/look"
)

const greatest = math.MaxUint64

// tags are all that there are.
func tags() []int { return []int{1, 2, 3, 4, 5} }

func same[T comparable](t *testing.T, got, want T, what string, about ...any) {
	if got != want {
		t.Helper()
		t.Fatalf("%s %v: %v, not %v", what, about, got, want)
	}
}

// list holds lists against each other; long ones aren't told.
func list[T comparable](t *testing.T, got, want []T, what string, about ...any) {
	if !slices.Equal(got, want) {
		t.Helper()
		t.Fatalf("%s %v: %v (%d), not %v (%d)", what, about, got[:min(len(got), 40)], len(got), want[:min(len(want), 40)], len(want))
	}
}

// numbers answers a function that tells numbers below n, on and on, by the seed.
func numbers(seed uint64) func(n int) int {
	return func(n int) int {
		seed = seed*6364136223846793005 + 1442695040888963407
		return int(seed >> 33 % uint64(n))
	}
}

// rising is these keys, each once.
func rising(l []uint64) []uint64 {
	r := slices.Clone(l)
	slices.Sort(r)
	return slices.Compact(r)
}

// spread is n keys that are by apart, from from on.
func spread(from uint64, n int, by uint64) []uint64 {
	var l []uint64
	for i := range uint64(n) {
		l = append(l, from+i*by)
	}
	return l
}

// far is n keys all over.
func far(n int) []uint64 {
	var l []uint64
	for i := range uint64(n) {
		l = append(l, (i+1)*0x9e3779b97f4a7c15)
	}
	return l
}

// samples are rising lists of keys.
func samples() [][]uint64 {
	ends := []uint64{0, 1, 2, 5, 63, 64, 65535, 65536, 1<<32 - 1, 1 << 32, 1<<63 - 1, 1 << 63, greatest - 1, greatest}
	return [][]uint64{
		nil, {0}, {5}, {greatest}, {0, greatest}, {5, 9}, {5, 6}, {1, 5, 9, 12}, {greatest - 1, greatest}, {0, 1}, {1 << 63}, ends,
		spread(0, 30, 1), spread(greatest-29, 30, 1), spread(7, 20, 1<<59), spread(65520, 40, 1), rising(far(25)),
	}
}

// asked is keys to ask for: those near the ends, and near some of l.
func asked(l []uint64) []uint64 {
	r := []uint64{0, 1, 2, 1 << 32, greatest - 1, greatest}
	for i := 0; i < len(l); i += 1 + len(l)/6 {
		r = append(r, l[i]-1, l[i], l[i]+1)
	}
	if len(l) > 0 {
		r = append(r, l[len(l)-1]-1, l[len(l)-1], l[len(l)-1]+1)
	}
	return rising(r)
}

// found is what Has' likes answer, told what a cursor's calls do, and counted what Wipe does.
type found struct {
	k  uint64
	ok bool
}

type told struct {
	k uint64
	e api.Errno
}

type counted struct {
	n int
	e api.Errno
}

func find(k uint64, ok bool) found { return found{k, ok} }

func tell(k uint64, e api.Errno) told { return told{k, e} }

func counts(n int, e api.Errno) counted { return counted{n, e} }

// between is l's keys from from up to to; l rises.
func between(l []uint64, from, to uint64) []uint64 {
	return slices.DeleteFunc(slices.Clone(l), func(k uint64) bool { return k < from || k > to })
}

func newSet(t *testing.T, tag int, seed uint64, limit int, keys ...uint64) face.Set {
	t.Helper()
	s, e := face.Build(tag, seed, limit, keys...)
	same(t, e, api.OK, "layer 20's Build", tag, seed, limit)
	return s
}

// kept is a kept set of these keys, whose limit is the greatest.
func kept(t *testing.T, tag int, keys ...uint64) *look.Kept {
	t.Helper()
	x := look.Keep(newSet(t, tag, 3, api.MaxCap, keys...))
	same(t, x != nil, true, "Keep", tag)
	same(t, x.Version(), 0, "Version at first", tag)
	return x
}

func open(t *testing.T, x *look.Kept, from, to uint64) *look.Cursor {
	t.Helper()
	c, e := x.Open(from, to)
	same(t, e, api.OK, "Open", from, to)
	same(t, c != nil, true, "Open", from, to)
	same(t, c.Stale(), false, "Stale at first", from, to)
	return c
}

// row is a plain cursor: the keys of its range, and how many of them stand ahead of it.
type row struct {
	keys  []uint64
	ahead int
}

func (r *row) next() told {
	if r.ahead == len(r.keys) {
		return told{0, api.ErrEnd}
	}
	r.ahead++
	return told{r.keys[r.ahead-1], api.OK}
}

func (r *row) prev() told {
	if r.ahead == 0 {
		return told{0, api.ErrEnd}
	}
	r.ahead--
	return told{r.keys[r.ahead], api.OK}
}

func (r *row) seek(k uint64) told {
	r.ahead, _ = slices.BinarySearch(r.keys, k)
	if r.ahead == len(r.keys) {
		return told{0, api.ErrEnd}
	}
	return told{r.keys[r.ahead], api.OK}
}

// rest tells at most n keys.
func (r *row) rest(n int) []uint64 {
	from := r.ahead
	r.ahead = min(r.ahead+n, len(r.keys))
	return r.keys[from:r.ahead]
}

// rest is at most n keys of a cursor's Rest.
func rest(c *look.Cursor, n int) []uint64 {
	var l []uint64
	if n == 0 {
		return l
	}
	for k := range c.Rest() {
		l = append(l, k)
		if len(l) == n {
			break
		}
	}
	return l
}

// has holds that a kept set has these keys, which rise, and that version.
func has(t *testing.T, x *look.Kept, keys []uint64, version uint64, what string, about ...any) {
	t.Helper()
	list(t, slices.Collect(x.All()), keys, what, about...)
	same(t, x.Len(), len(keys), what+": Len", about...)
	same(t, x.Version(), version, what+": Version", about...)
}

// stale holds that a cursor is, in each of its calls.
func stale(t *testing.T, c *look.Cursor, what string, about ...any) {
	t.Helper()
	same(t, c.Stale(), true, what+": Stale", about...)
	same(t, tell(c.Next()), told{0, api.ErrStale}, what+": Next", about...)
	same(t, tell(c.Prev()), told{0, api.ErrStale}, what+": Prev", about...)
	for _, k := range []uint64{0, 5, greatest} {
		same(t, tell(c.Seek(k)), told{0, api.ErrStale}, what+": Seek", about...)
	}
	same(t, len(rest(c, -1)), 0, what+": Rest", about...)
	same(t, c.Stale(), true, what+": Stale behind all", about...)
}
