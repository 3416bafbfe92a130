package face_test

import (
	"math"
	"slices"
	"testing"

	"stepstone/api"
	"stepstone/face"
	"stepstone/roar"
	"stepstone/trie"
	"stepstone/veb"
	"stepstone/xfast"
	"stepstone/yfast"
)

const greatest = math.MaxUint64

// tags are all that there are.
func tags() []int { return []int{1, 2, 3, 4, 5} }

// wrongTags are those that there aren't.
func wrongTags() []int {
	return []int{math.MinInt, math.MinInt + 1, -1 << 32, -5, -2, -1, 0, 6, 7, 8, 255, 256, 257, 1 << 32, 1<<32 + 1, math.MaxInt - 1, math.MaxInt}
}

// wrongLimits are those that there can't be.
func wrongLimits() []int {
	return []int{math.MinInt, math.MinInt + 1, -1 << 32, -api.MaxCap, -2, -1, api.MaxCap + 1, api.MaxCap + 2, 2 * api.MaxCap, 1 << 32, math.MaxInt - 1, math.MaxInt}
}

func same[T comparable](t *testing.T, got, want T, what string, about ...any) {
	if got != want {
		t.Helper()
		t.Fatalf("%s %v: %v, not %v", what, about, got, want)
	}
}

// list holds lists against each other; long ones aren't told.
func list[T comparable](t *testing.T, got, want []T, what string, about ...any) {
	if !slices.Equal(got, want) {
		t.Helper()
		t.Fatalf("%s %v: %v (%d), not %v (%d)", what, about, got[:min(len(got), 40)], len(got), want[:min(len(want), 40)], len(want))
	}
}

// numbers answers a function that tells numbers below n, on and on, by the seed.
func numbers(seed uint64) func(n int) int {
	return func(n int) int {
		seed = seed*6364136223846793005 + 1442695040888963407
		return int(seed >> 33 % uint64(n))
	}
}

func shuffled(l []uint64, seed uint64) []uint64 {
	number, r := numbers(seed), slices.Clone(l)
	for i := range r {
		j := i + number(len(r)-i)
		r[i], r[j] = r[j], r[i]
	}
	return r
}

// rising is these keys, each once.
func rising(l []uint64) []uint64 {
	r := slices.Clone(l)
	slices.Sort(r)
	return slices.Compact(r)
}

// spread is n keys that are by apart, from from on.
func spread(from uint64, n int, by uint64) []uint64 {
	var l []uint64
	for i := range uint64(n) {
		l = append(l, from+i*by)
	}
	return l
}

// far is n keys all over.
func far(n int) []uint64 {
	var l []uint64
	for i := range uint64(n) {
		l = append(l, (i+1)*0x9e3779b97f4a7c15)
	}
	return l
}

// mixed is keys some of which are near one another, and some far.
func mixed(n int, seed uint64) []uint64 {
	number := numbers(seed)
	var l []uint64
	for range n {
		base := uint64(number(4)) * 0x4000_0000_0000_0001
		l = append(l, base+uint64(number(8))<<(8*number(7))+uint64(number(70)))
	}
	return rising(l)
}

// samples are rising lists of keys.
func samples() [][]uint64 {
	ends := []uint64{0, 1, 2, 5, 63, 64, 65535, 65536, 1<<32 - 1, 1 << 32, 1<<63 - 1, 1 << 63, greatest - 1, greatest}
	return [][]uint64{
		nil, {0}, {5}, {greatest}, {0, greatest}, {5, 9}, {5, 6}, {greatest - 1, greatest}, {0, 1}, {1 << 63}, ends,
		spread(0, 70, 1), spread(3, 200, 2), spread(greatest-149, 150, 1), spread(7, 40, 1<<58), spread(65500, 80, 1), rising(far(60)), mixed(100, 1), mixed(200, 2),
	}
}

// about is keys near k.
func about(k uint64) []uint64 {
	return []uint64{k - 2, k - 1, k, k + 1, k + 2, k ^ 1<<16, k ^ 1<<40, k ^ 1<<63}
}

// asked is keys to ask for: those near the ends, and near some of l.
func asked(l []uint64) []uint64 {
	r := append(about(0), 1<<32, 1<<63)
	for i := 0; i < len(l); i += 1 + len(l)/12 {
		r = append(r, about(l[i])...)
	}
	if len(l) > 0 {
		r = append(r, about(l[len(l)-1])...)
	}
	return rising(r)
}

// found is what Next, Prev, Min, Max and Select answer.
type found struct {
	k  uint64
	ok bool
}

func find(k uint64, ok bool) found { return found{k, ok} }

// counted is what Count and Wipe answer.
type counted struct {
	n int
	e api.Errno
}

func tell(n int, e api.Errno) counted { return counted{n, e} }

// at is the key at that place of l, if there is such a place.
func at(l []uint64, i int) found {
	if i < 0 || i >= len(l) {
		return found{}
	}
	return found{l[i], true}
}

// below is how many of l, which rises, are below k.
func below(l []uint64, k uint64) int {
	i, _ := slices.BinarySearch(l, k)
	return i
}

// between is the places of l's keys from from up to to.
func between(l []uint64, from, to uint64) (int, int) {
	i, j := below(l, from), below(l, to)
	if j < len(l) && l[j] == to {
		j++
	}
	return i, j
}

// kept is the keys that are wanted by how many of the lists have them, and whether the first one has; rising.
func kept(l [][]uint64, wanted func(n int, first bool) bool) []uint64 {
	n := map[uint64]int{}
	for _, keys := range l {
		for _, k := range keys {
			n[k]++
		}
	}
	var r []uint64
	for k, n := range n {
		if wanted(n, slices.Contains(l[0], k)) {
			r = append(r, k)
		}
	}
	slices.Sort(r)
	return r
}

// joined is what an op says of these lists.
func joined(op int, l ...[]uint64) []uint64 {
	return kept(l, func(n int, first bool) bool {
		return []bool{n > 0, n == len(l), n == 1 && first, n%2 == 1}[op]
	})
}

// ops are all that there are.
func ops() []int { return []int{face.OpOr, face.OpAnd, face.OpLess, face.OpXor} }

// layer is a new set of a tag's layer, by that layer's own calls.
func layer(tag int, seed uint64, limit int) (face.Set, api.Errno) {
	switch tag {
	case 1:
		s, e := veb.New(seed, limit)
		return s, e
	case 2:
		s, e := xfast.New(seed, limit)
		return s, e
	case 3:
		s, e := yfast.New(seed, limit)
		return s, e
	case 4:
		s, e := trie.New(limit)
		return s, e
	}
	s, e := roar.New(limit)
	return s, e
}

// kind is the tag by whose layer a set is made.
func kind(s face.Set) int {
	switch s.(type) {
	case *veb.VEB:
		return 1
	case *xfast.XFast:
		return 2
	case *yfast.YFast:
		return 3
	case *trie.Trie:
		return 4
	case *roar.Roar:
		return 5
	}
	return 0
}

// fits is the least limit with which these keys can be inserted one by one, rising.
func fits(t *testing.T, tag int, keys []uint64) int {
	t.Helper()
	s, e := layer(tag, 77, api.MaxCap)
	same(t, e, api.OK, "a layer's New")
	most := 0
	for _, k := range rising(keys) {
		same(t, s.Insert(k), api.OK, "a layer's Insert", tag, k)
		most = max(most, s.Used())
	}
	return most
}

func newSet(t *testing.T, tag int, seed uint64, limit int) face.Set {
	t.Helper()
	s, e := face.New(tag, seed, limit)
	same(t, e, api.OK, "New", tag, seed, limit)
	return s
}

func build(t *testing.T, tag int, seed uint64, keys ...uint64) face.Set {
	t.Helper()
	s, e := face.Build(tag, seed, api.MaxCap, keys...)
	same(t, e, api.OK, "Build", tag, seed, len(keys))
	return s
}

// none holds that beside an error there is no Set, not even a nil one of some layer.
func none(t *testing.T, s face.Set, e, want api.Errno, what string, about ...any) {
	t.Helper()
	same(t, e, want, what, about...)
	same(t, s == nil, true, what+": no Set", about...)
}

// all is what a set tells, whose Len, Min and Max are held against that.
func all(t *testing.T, s face.Set) []uint64 {
	t.Helper()
	l := slices.Collect(s.All())
	same(t, s.Len(), len(l), "Len")
	same(t, find(s.Min()), at(l, 0), "Min")
	same(t, find(s.Max()), at(l, len(l)-1), "Max")
	return l
}

// has holds that a set has just these keys, and is of that tag and limit.
func has(t *testing.T, s face.Set, tag, limit int, want []uint64, what string, about ...any) {
	t.Helper()
	list(t, all(t, s), want, what, about...)
	same(t, kind(s), tag, what+": the tag", about...)
	same(t, s.Limit(), limit, what+": Limit", about...)
}

// told is what a set tells that would show a change.
type told struct {
	used, limit, taken int
	bytes              string
}

// tells is without any step.
func tells(s face.Set) told {
	p, _ := face.Encode(s)
	return told{s.Used(), s.Limit(), s.Taken(), string(p)}
}

// answers holds what is told of a set's keys against these, which rise.
func answers(t *testing.T, s face.Set, keys []uint64, about ...any) {
	t.Helper()
	for _, k := range asked(keys) {
		i, there := slices.BinarySearch(keys, k)
		same(t, face.Rank(s, k), i, "Rank", k, about)
		same(t, s.Has(k), there, "Has", k, about)
		same(t, find(s.Next(k)), at(keys, i), "Next", k, about)
		if !there {
			i--
		}
		same(t, find(s.Prev(k)), at(keys, i), "Prev", k, about)
	}
	for i := 0; i < len(keys); i += 1 + len(keys)/9 {
		same(t, find(face.Select(s, i)), at(keys, i), "Select", i, about)
	}
	for _, i := range []int{math.MinInt, math.MinInt + 1, -2, -1, 0, len(keys) - 1, len(keys), len(keys) + 1, 1 << 40, math.MaxInt - 1, math.MaxInt} {
		same(t, find(face.Select(s, i)), at(keys, i), "Select", i, about)
	}
	counts(t, s, keys, about...)
}

// counts holds Count of many ranges against the keys.
func counts(t *testing.T, s face.Set, keys []uint64, about ...any) {
	t.Helper()
	l := asked(keys)
	for n, from := range l {
		for _, to := range []uint64{0, from - 1, from, from + 1, l[(n+5)%len(l)], l[(3*n+1)%len(l)], l[len(l)-1], greatest - 1, greatest} {
			want := counted{0, api.ErrOrder}
			if from <= to {
				i, j := between(keys, from, to)
				want = counted{j - i, api.OK}
			}
			same(t, tell(face.Count(s, from, to)), want, "Count", from, to, about)
		}
	}
}
