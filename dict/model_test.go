package dict_test

import (
	"iter"
	"maps"
	"math"
	"slices"
	"testing"

	"stepstone/api"
	"stepstone/code"
	"stepstone/dict"
	"stepstone/face"
)

const greatest = math.MaxUint64

// tags are all that there are.
func tags() []int { return []int{1, 2, 3, 4, 5} }

// wrongTags are those that there aren't.
func wrongTags() []int {
	return []int{math.MinInt, math.MinInt + 1, -1 << 32, -5, -2, -1, 0, 6, 7, 8, 255, 256, 257, 1 << 32, 1<<32 + 1, math.MaxInt - 1, math.MaxInt}
}

// wrongLimits are those that there can't be.
func wrongLimits() []int {
	return []int{math.MinInt, math.MinInt + 1, -1 << 32, -api.MaxCap, -2, -1, api.MaxCap + 1, api.MaxCap + 2, 2 * api.MaxCap, 1 << 32, math.MaxInt - 1, math.MaxInt}
}

func same[T comparable](t *testing.T, got, want T, what string, about ...any) {
	if got != want {
		t.Helper()
		t.Fatalf("%s %v: %v, not %v", what, about, got, want)
	}
}

// list holds lists against each other; long ones aren't told.
func list[T comparable](t *testing.T, got, want []T, what string, about ...any) {
	if !slices.Equal(got, want) {
		t.Helper()
		t.Fatalf("%s %v: %v (%d), not %v (%d)", what, about, got[:min(len(got), 40)], len(got), want[:min(len(want), 40)], len(want))
	}
}

// numbers answers a function that tells numbers below n, on and on, by the seed.
func numbers(seed uint64) func(n int) int {
	return func(n int) int {
		seed = seed*6364136223846793005 + 1442695040888963407
		return int(seed >> 33 % uint64(n))
	}
}

// p is a pair.
func p(k, v uint64) api.Pair { return api.Pair{Key: k, Value: v} }

// pairs are of these keys, with values by the seed: some are the same, some 0, some great.
func pairs(seed uint64, keys ...uint64) []api.Pair {
	var l []api.Pair
	for i, k := range keys {
		v := (k + seed) * 0x9e3779b97f4a7c15
		switch (uint64(i) + seed) % 4 {
		case 0:
			v = 0
		case 1:
			v %= 1000
		}
		l = append(l, p(k, v))
	}
	return l
}

// rising is these keys, each once.
func rising(l []uint64) []uint64 {
	r := slices.Clone(l)
	slices.Sort(r)
	return slices.Compact(r)
}

func shuffled[T any](l []T, seed uint64) []T {
	number, r := numbers(seed), slices.Clone(l)
	for i := range r {
		j := i + number(len(r)-i)
		r[i], r[j] = r[j], r[i]
	}
	return r
}

// spread is n keys that are by apart, from from on.
func spread(from uint64, n int, by uint64) []uint64 {
	var l []uint64
	for i := range uint64(n) {
		l = append(l, from+i*by)
	}
	return l
}

// far is n keys all over.
func far(n int) []uint64 {
	var l []uint64
	for i := range uint64(n) {
		l = append(l, (i+1)*0x9e3779b97f4a7c15)
	}
	return l
}

// samples are pairs of rising keys.
func samples() [][]api.Pair {
	ends := []uint64{0, 1, 2, 5, 63, 64, 65535, 65536, 1<<32 - 1, 1 << 32, 1<<63 - 1, 1 << 63, greatest - 1, greatest}
	var r [][]api.Pair
	for i, keys := range [][]uint64{
		nil, {0}, {5}, {greatest}, {0, greatest}, {5, 9}, {5, 6}, {greatest - 1, greatest}, {0, 1}, {1 << 63}, ends,
		spread(0, 70, 1), spread(3, 150, 2), spread(greatest-149, 150, 1), spread(7, 40, 1<<58), spread(65500, 80, 1), rising(far(60)),
	} {
		r = append(r, pairs(uint64(i), keys...))
	}
	return r
}

// asked is keys to ask for: those near the ends, and near some of l.
func asked(l []api.Pair) []uint64 {
	r := []uint64{0, 1, 2, 65535, 65536, 1 << 32, 1 << 63, greatest - 1, greatest}
	for i, x := range l {
		if i < 3 || i >= len(l)-3 || i%(1+len(l)/12) == 0 {
			r = append(r, x.Key-1, x.Key, x.Key+1, x.Key^1<<16, x.Key^1<<63)
		}
	}
	return rising(r)
}

// places are those to ask for of n pairs: below 0, each of them, and behind the last one.
func places(n int) []int {
	l := []int{math.MinInt, math.MinInt + 1, -2, -1, n, n + 1, 1 << 40, math.MaxInt - 1, math.MaxInt}
	for i := 0; i < n; i += 1 + n/40 {
		l = append(l, i)
	}
	return append(l, n-1)
}

// got is what Get answers, met what Floor, Ceil and At do, found what Next, Prev, Min and Max do, and loaded what Load does.
type got struct {
	v  uint64
	ok bool
}

type met struct {
	x  api.Pair
	ok bool
}

type found struct {
	k  uint64
	ok bool
}

type loaded struct {
	n int
	e api.Errno
}

func gets(v uint64, ok bool) got { return got{v, ok} }

func meets(x api.Pair, ok bool) met { return met{x, ok} }

func find(k uint64, ok bool) found { return found{k, ok} }

func loads(n int, e api.Errno) loaded { return loaded{n, e} }

// at is the pair at that place of l, if there is such a place.
func at(l []api.Pair, i int) met {
	if i < 0 || i >= len(l) {
		return met{}
	}
	return met{l[i], true}
}

// key is its key, if it is there.
func (x met) key() found { return found{x.x.Key, x.ok} }

// collect is what is told, pair by pair.
func collect(s iter.Seq2[uint64, uint64]) []api.Pair {
	var l []api.Pair
	for k, v := range s {
		l = append(l, p(k, v))
	}
	return l
}

// plain is pairs, in the plainest way.
type plain map[uint64]uint64

// rising are the pairs by their keys.
func (l plain) rising() []api.Pair {
	var r []api.Pair
	for _, k := range slices.Sorted(maps.Keys(l)) {
		r = append(r, p(k, l[k]))
	}
	return r
}

func newMap(t *testing.T, tag int, seed uint64, limit int) *dict.Map {
	t.Helper()
	m, e := dict.New(tag, seed, limit)
	same(t, e, api.OK, "New", tag, seed, limit)
	same(t, m != nil, true, "New", tag, seed, limit)
	return m
}

// made is a new map with these pairs, whose limit is the greatest.
func made(t *testing.T, tag int, seed uint64, l ...api.Pair) *dict.Map {
	t.Helper()
	m := newMap(t, tag, seed, api.MaxCap)
	for _, x := range l {
		same(t, m.Put(x.Key, x.Value), api.OK, "Put", tag, x)
	}
	return m
}

func newSet(t *testing.T, tag int, seed uint64, limit int) face.Set {
	t.Helper()
	s, e := face.New(tag, seed, limit)
	same(t, e, api.OK, "layer 20's New", tag, seed, limit)
	return s
}

// fits is the least limit with which these pairs can be put in one by one, in that order: as keys, and as values.
func fits(t *testing.T, tag int, l []api.Pair) int {
	t.Helper()
	s, most := newSet(t, tag, 77, api.MaxCap), 0
	for _, x := range l {
		s.Insert(x.Key)
		most = max(most, s.Used(), s.Len())
	}
	return most
}

// none holds that beside an error there is no map.
func none(t *testing.T, m *dict.Map, e, want api.Errno, what string, about ...any) {
	t.Helper()
	same(t, e, want, what, about...)
	same(t, m, nil, what+": no map", about...)
}

// told is what a map tells that would show a change.
type told struct {
	len, used, limit int
	bytes            string
}

func tells(m *dict.Map) told {
	b, _ := m.Encode()
	return told{m.Len(), m.Used(), m.Limit(), string(b)}
}

// has holds all that is told of the pairs against these, which rise.
func has(t *testing.T, m *dict.Map, want []api.Pair, about ...any) {
	t.Helper()
	list(t, collect(m.Pairs()), want, "Pairs", about...)
	same(t, m.Len(), len(want), "Len", about...)
	same(t, find(m.Min()), at(want, 0).key(), "Min", about...)
	same(t, find(m.Max()), at(want, len(want)-1).key(), "Max", about...)
	var keys []uint64
	for _, x := range want {
		keys = append(keys, x.Key)
		same(t, gets(m.Get(x.Key)), got{x.Value, true}, "Get", x.Key, about)
	}
	list(t, slices.Collect(m.All()), keys, "All", about...)
	b, e := m.Encode()
	bytes, _ := code.Pairs(want)
	same(t, e, api.OK, "Encode", about...)
	list(t, b, bytes, "Encode", about...)
}

// answers holds what is told of keys and places against these pairs, which rise.
func answers(t *testing.T, m *dict.Map, want []api.Pair, about ...any) {
	t.Helper()
	for _, k := range asked(want) {
		i, there := slices.BinarySearchFunc(want, k, func(x api.Pair, k uint64) int {
			switch {
			case x.Key < k:
				return -1
			case x.Key > k:
				return 1
			}
			return 0
		})
		v := got{}
		if there {
			v = got{want[i].Value, true}
		}
		same(t, gets(m.Get(k)), v, "Get", k, about)
		same(t, m.Has(k), there, "Has", k, about)
		same(t, meets(m.Ceil(k)), at(want, i), "Ceil", k, about)
		same(t, find(m.Next(k)), at(want, i).key(), "Next", k, about)
		if !there {
			i--
		}
		same(t, meets(m.Floor(k)), at(want, i), "Floor", k, about)
		same(t, find(m.Prev(k)), at(want, i).key(), "Prev", k, about)
	}
	for _, i := range places(len(want)) {
		same(t, meets(m.At(i)), at(want, i), "At", i, about)
	}
}
