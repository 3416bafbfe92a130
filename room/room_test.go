package room_test

import (
	"math"
	"slices"
	"testing"

	"stepstone/api"
	"stepstone/face"
	"stepstone/roar"
	"stepstone/room"
	"stepstone/veb"
)

const greatest = math.MaxUint64

// tags are all that there are.
func tags() []int { return []int{1, 2, 3, 4, 5} }

// wrongTags are those that there aren't.
func wrongTags() []int {
	return []int{math.MinInt, math.MinInt + 1, -1 << 32, -5, -2, -1, 0, 6, 7, 8, 255, 256, 257, 1 << 32, 1<<32 + 1, math.MaxInt - 1, math.MaxInt}
}

func same[T comparable](t *testing.T, got, want T, what string, about ...any) {
	if got != want {
		t.Helper()
		t.Fatalf("%s %v: %v, not %v", what, about, got, want)
	}
}

// numbers answers a function that tells numbers below n, on and on, by the seed.
func numbers(seed uint64) func(n int) int {
	return func(n int) int {
		seed = seed*6364136223846793005 + 1442695040888963407
		return int(seed >> 33 % uint64(n))
	}
}

// spread is n keys that are by apart, from from on.
func spread(from uint64, n int, by uint64) []uint64 {
	var l []uint64
	for i := range uint64(n) {
		l = append(l, from+i*by)
	}
	return l
}

// far is n keys all over.
func far(n int) []uint64 {
	return spread(0x9e3779b97f4a7c15, n, 0x9e3779b97f4a7c15)
}

// found is what Need and Most answer.
type found struct {
	n int
	e api.Errno
}

func tell(n int, e api.Errno) found { return found{n, e} }

// formula is what the document says of n keys, if there are some.
func formula(tag, n int) int {
	return []int{0, 5*n + 1, 66 * n, 4*n + 68, 11 * n, 2 * n}[tag]
}

// someN are numbers of keys.
func someN() []int {
	return append([]int{1, 2, 3, 4, 5, 10, 16, 17, 100, 1000, 4096, 4097, 15887, 15888, 65536, api.MaxKeys / 2, api.MaxKeys - 1, api.MaxKeys}, seventy()...)
}

func seventy() []int {
	var l []int
	for n := range 70 {
		l = append(l, n+1)
	}
	return l
}

// P21.1

func TestExample(t *testing.T) {
	same(t, tell(room.Need(4, 10)), found{110, api.OK}, "Need")
	same(t, tell(room.Most(4, 120)), found{10, api.OK}, "Most")
}

func TestNeed(t *testing.T) {
	for tag, l := range map[int][]int{1: {0, 6, 11, 51, 1310721}, 2: {0, 66, 132, 660, 17301504}, 3: {0, 72, 76, 108, 1048644}, 4: {0, 11, 22, 110, 2883584}, 5: {0, 2, 4, 20, 524288}} {
		for i, n := range []int{0, 1, 2, 10, api.MaxKeys} {
			same(t, tell(room.Need(tag, n)), found{l[i], api.OK}, "Need", tag, n)
		}
	}
	for _, tag := range tags() {
		for _, n := range someN() {
			same(t, tell(room.Need(tag, n)), found{formula(tag, n), api.OK}, "Need", tag, n)
		}
		for _, n := range []int{math.MinInt, math.MinInt + 1, -1 << 32, -api.MaxKeys, -2, -1, api.MaxKeys + 1, api.MaxKeys + 2, 1 << 32, math.MaxInt - 1, math.MaxInt} {
			same(t, tell(room.Need(tag, n)), found{0, api.ErrArg}, "Need", tag, n)
		}
	}
	for _, tag := range wrongTags() {
		for _, n := range []int{math.MinInt, -1, 0, 1, 10, api.MaxKeys, api.MaxKeys + 1, math.MaxInt} {
			same(t, tell(room.Need(tag, n)), found{0, api.ErrArg}, "Need", tag, n)
		}
	}
}

// most holds that Most is the greatest n of which Need is at most limit.
func most(t *testing.T, tag, limit int) {
	t.Helper()
	n, e := room.Most(tag, limit)
	same(t, e, api.OK, "Most", tag, limit)
	need, e := room.Need(tag, n)
	same(t, e, api.OK, "Need of Most", tag, limit, n)
	same(t, need <= limit, true, "Need of Most is at most limit", tag, limit, n, need)
	if n < api.MaxKeys {
		need, e = room.Need(tag, n+1)
		same(t, e, api.OK, "Need of one more than Most", tag, limit, n)
		same(t, need > limit, true, "Need of one more than Most is above limit", tag, limit, n, need)
	}
}

func TestMost(t *testing.T) {
	for _, tag := range tags() {
		for limit := range 3000 {
			most(t, tag, limit)
		}
		for _, n := range someN() {
			need := formula(tag, n)
			same(t, tell(room.Most(tag, need)), found{n, api.OK}, "Most", tag, need)
			same(t, tell(room.Most(tag, need-1)), found{n - 1, api.OK}, "Most", tag, need-1)
			for _, limit := range []int{need - 1, need, need + 1, need + 65} {
				most(t, tag, limit)
			}
		}
		for _, limit := range []int{api.MaxCap - 1, api.MaxCap, api.MaxCap + 1, 1 << 24, 66 * api.MaxKeys, 66*api.MaxKeys + 1, 1 << 32, math.MaxInt - 1, math.MaxInt} {
			most(t, tag, limit)
		}
		same(t, tell(room.Most(tag, math.MaxInt)), found{api.MaxKeys, api.OK}, "Most of the greatest limit", tag)
		same(t, tell(room.Most(tag, formula(tag, api.MaxKeys)+1000)), found{api.MaxKeys, api.OK}, "Most of more than MaxKeys", tag)
		same(t, tell(room.Most(tag, 0)), found{0, api.OK}, "Most of 0", tag)
		for _, limit := range []int{math.MinInt, math.MinInt + 1, -1 << 32, -68, -2, -1} {
			same(t, tell(room.Most(tag, limit)), found{0, api.ErrArg}, "Most", tag, limit)
		}
	}
	for _, tag := range wrongTags() {
		for _, limit := range []int{math.MinInt, -1, 0, 1, 100, api.MaxCap, math.MaxInt} {
			same(t, tell(room.Most(tag, limit)), found{0, api.ErrArg}, "Most", tag, limit)
		}
	}
}

func TestFits(t *testing.T) {
	for _, limit := range []int{math.MinInt, -1, 0, 1, 660, api.MaxCap, math.MaxInt} {
		same(t, room.Fits(limit), api.MaxKeys, "Fits of no tags", limit)
		same(t, room.Fits(limit, []int{}...), api.MaxKeys, "Fits of no tags", limit)
	}
	for _, limit := range []int{0, 1, 2, 10, 11, 65, 66, 67, 68, 69, 72, 108, 660, 5000, 1 << 19, api.MaxCap, 66 * api.MaxKeys, math.MaxInt} {
		least := api.MaxKeys
		for _, tag := range tags() {
			n, _ := room.Most(tag, limit)
			least = min(least, n)
			same(t, room.Fits(limit, tag), n, "Fits", limit, tag)
			same(t, room.Fits(limit, tag, tag, tag), n, "Fits", limit, tag)
			for _, wrong := range wrongTags() {
				same(t, room.Fits(limit, wrong), 0, "Fits", limit, wrong)
				same(t, room.Fits(limit, tag, wrong), 0, "Fits", limit, tag, wrong)
				same(t, room.Fits(limit, wrong, tag), 0, "Fits", limit, wrong, tag)
				same(t, room.Fits(limit, tag, wrong, tag), 0, "Fits", limit, tag, wrong)
			}
			for _, other := range tags() {
				o, _ := room.Most(other, limit)
				same(t, room.Fits(limit, tag, other), min(n, o), "Fits", limit, tag, other)
			}
		}
		same(t, room.Fits(limit, tags()...), least, "Fits of all", limit)
	}
	same(t, room.Fits(660, 1, 2, 3), 10, "Fits")
	same(t, room.Fits(660, 1, 4, 5), 60, "Fits")
	same(t, room.Fits(math.MaxInt, 1, 2, 3, 4, 5), api.MaxKeys, "Fits")
	for _, limit := range []int{math.MinInt, -1 << 32, -2, -1} {
		for _, tag := range append(tags(), wrongTags()...) {
			same(t, room.Fits(limit, tag), 0, "Fits", limit, tag)
			same(t, room.Fits(limit, 5, tag), 0, "Fits", limit, tag)
		}
	}
	l := []int{5, 1, 2, 77, 78}
	same(t, room.Fits(660, l[:3]...), 10, "Fits")
	same(t, slices.Equal(l, []int{5, 1, 2, 77, 78}), true, "what was handed to Fits")
}

// script is a set with the limit that Need names, and its keys, never more than n.
type script struct {
	t    *testing.T
	tag  int
	seed uint64
	n    int
	need int
	s    face.Set
	keys map[uint64]bool
}

func newScript(t *testing.T, tag, n int, seed uint64) *script {
	t.Helper()
	need, e := room.Need(tag, n)
	same(t, e, api.OK, "Need", tag, n)
	// A limit above MaxCap there can't be, and isn't needed for as few keys as are here.
	same(t, need <= api.MaxCap, true, "Need is a limit", tag, n)
	s, e := face.New(tag, seed, need)
	same(t, e, api.OK, "New", tag, need)
	return &script{t, tag, seed, n, need, s, map[uint64]bool{}}
}

func (x *script) has(k uint64) bool { return x.keys[k] }

// insert is of a key for which there may be no place among n; then one of those that are there goes first.
func (x *script) insert(k uint64) {
	x.t.Helper()
	if x.has(k) {
		same(x.t, x.s.Insert(k), api.ErrExists, "Insert", x.tag, x.n)
		return
	}
	if len(x.keys) == x.n {
		first, ok := x.s.Next(k)
		if !ok {
			first, ok = x.s.Min()
		}
		if !ok {
			return
		}
		x.delete(first)
	}
	same(x.t, x.s.Insert(k), api.OK, "Insert", x.tag, x.n, len(x.keys))
	x.keys[k] = true
}

func (x *script) delete(k uint64) {
	x.t.Helper()
	want := api.ErrNone
	if x.has(k) {
		want = api.OK
		delete(x.keys, k)
	}
	same(x.t, x.s.Delete(k), want, "Delete", x.tag, x.n, len(x.keys))
}

func (x *script) wipe(from, to uint64) {
	x.t.Helper()
	n := 0
	for _, k := range slices.Collect(x.s.All()) {
		if k >= from && k <= to {
			delete(x.keys, k)
			n++
		}
	}
	same(x.t, tell(face.Wipe(x.s, from, to)), found{n, api.OK}, "Wipe", x.tag, x.n, len(x.keys))
}

// again makes the set anew, of its keys, in one of three ways.
func (x *script) again(way int) {
	x.t.Helper()
	l := slices.Collect(x.s.All())
	same(x.t, len(l), len(x.keys), "how many keys", x.tag, x.n)
	var s face.Set
	var e api.Errno
	switch way {
	case 0:
		s, e = face.Build(x.tag, x.seed, x.need, l...)
	case 1:
		s, e = face.Join(face.OpOr, x.tag, x.seed, x.need, x.s, nil)
	default:
		p, _ := face.Encode(x.s)
		s, e = face.Decode(p, x.tag, x.seed, x.need)
	}
	same(x.t, e, api.OK, "made anew", x.tag, x.n, way)
	x.s = s
}

// ranges fills and keeps as runs, where a set can.
func (x *script) ranges(k uint64, n int) {
	x.t.Helper()
	r, ok := x.s.(*roar.Roar)
	if !ok {
		return
	}
	if to := k + uint64(n); to > k && len(x.keys)+n+1 <= x.n {
		_, e := r.Fill(k, to)
		same(x.t, e, api.OK, "Fill", x.n, len(x.keys))
		for ; k <= to; k++ {
			x.keys[k] = true
		}
	}
	if n%3 == 0 {
		r.Optimise()
	}
	if n%7 == 0 {
		same(x.t, r.Plain(), api.OK, "Plain", x.n, len(x.keys))
	}
}

// run goes through a script of so many calls, of keys that key tells.
func (x *script) run(calls int, number func(int) int, key func() uint64) {
	x.t.Helper()
	for range calls {
		switch k := key(); number(16) {
		case 0, 1, 2:
			x.delete(k)
		case 3:
			if next, ok := x.s.Next(k); ok {
				x.delete(next)
			}
		case 4:
			if number(20) == 0 {
				x.wipe(k, max(k, k+uint64(number(1<<18))))
			}
		case 5:
			if number(20) == 0 {
				x.again(number(3))
			}
		case 6:
			x.ranges(k, number(50))
		case 7:
			if number(200) == 0 {
				x.s.Clear()
				clear(x.keys)
			}
		default:
			x.insert(k)
		}
		same(x.t, x.s.Used() <= x.need, true, "Used is at most the limit", x.tag, x.n)
	}
	same(x.t, x.s.Len(), len(x.keys), "Len", x.tag, x.n)
	for k := range x.keys {
		same(x.t, x.s.Has(k), true, "Has", x.tag, x.n, k)
	}
}

// kinds are ways to tell keys: all over, near one another, some of each, with few bits, rising, falling.
func kinds(number func(int) int) []func() uint64 {
	whole := func() uint64 {
		return uint64(number(1<<31))<<33 ^ uint64(number(1<<31))<<2 ^ uint64(number(4))
	}
	up, down := uint64(0), uint64(greatest)
	return []func() uint64{
		whole,
		func() uint64 { return uint64(number(3000)) },
		func() uint64 { return whole() >> number(64) },
		func() uint64 { return whole() & whole() & whole() & whole() & whole() },
		func() uint64 { return uint64(number(64))<<58 | uint64(number(64)) },
		func() uint64 { return uint64(number(200)) << 16 },
		func() uint64 { up += uint64(number(3)); return up },
		func() uint64 { down -= uint64(number(1 << 20)); return down },
	}
}

// TestNoCallIsFull with the limit that Need names.
func TestNoCallIsFull(t *testing.T) {
	for _, tag := range tags() {
		for _, n := range []int{0, 1, 2, 3, 7, 30, 64, 65, 129, 130, 200, 1000} {
			for seed := range uint64(3) {
				number := numbers(seed + uint64(n))
				for _, key := range kinds(number) {
					newScript(t, tag, n, seed).run(min(3000, 300+5*n), number, key)
				}
			}
		}
	}
}

// TestNoCallIsFullOfMany, where boxes are bitmaps, and buckets come and go.
func TestNoCallIsFullOfMany(t *testing.T) {
	for _, tag := range tags() {
		const n = 6000
		x := newScript(t, tag, n, 9)
		for range 2 {
			for _, l := range [][]uint64{spread(100, n, 1), far(n), spread(1<<40, n, 3), spread(5, n, 1<<16), spread(0, n, 1<<51)} {
				for _, k := range l {
					x.insert(k)
				}
				same(t, len(x.keys), n, "how many keys", tag)
				x.again(0)
				for i, k := range l {
					if i%7 > 0 {
						x.delete(k)
					}
				}
				x.again(2)
			}
			x.wipe(0, greatest)
			same(t, x.s.Used(), 0, "Used", tag)
		}
	}
}

// TestAsManyAsMost: so many keys fit, whichever they are.
func TestAsManyAsMost(t *testing.T) {
	for _, tag := range tags() {
		for _, limit := range []int{0, 1, 5, 6, 11, 66, 68, 71, 72, 100, 500, 5000, 50000} {
			n, e := room.Most(tag, limit)
			same(t, e, api.OK, "Most", tag, limit)
			for _, l := range [][]uint64{spread(0, n, 1), far(n), spread(7, n, 1<<16), spread(3, n, 1<<46)} {
				s, e := face.Build(tag, 3, limit, l...)
				same(t, e, api.OK, "Build", tag, limit, n)
				same(t, s.Len(), n, "Len", tag, limit)
			}
		}
		s, e := face.Build(tag, 3, api.MaxCap, far(room.Fits(api.MaxCap, tag))...)
		same(t, e, api.OK, "Build with MaxCap", tag)
		same(t, s.Len(), room.Fits(api.MaxCap, tag), "Len", tag)
	}
}

// P21.2

func TestSteps(t *testing.T) {
	for tag, want := range [][3]int{1: {9, 21, 1}, 2: {1, 9, 1}, 3: {11, 12, 12}, 4: {11, 12, 1}, 5: {66, 66, 1}} {
		has, near, ends := room.Steps(tag)
		same(t, [3]int{has, near, ends}, want, "Steps", tag)
	}
	for _, tag := range wrongTags() {
		has, near, ends := room.Steps(tag)
		same(t, [3]int{has, near, ends}, [3]int{}, "Steps", tag)
	}
}

func TestDepth(t *testing.T) {
	for tag, want := range []int{0, 5, 65, 66, 11, 2} {
		same(t, room.Depth(tag), want, "Depth", tag)
	}
	for _, tag := range wrongTags() {
		same(t, room.Depth(tag), 0, "Depth", tag)
	}
	v, _ := veb.New(3, api.MaxCap)
	v.Each(far(20000)...)
	v.Each(spread(0, 20000, 1)...)
	same(t, v.Depth(), room.Depth(1), "a tree's own Depth")
}

// TestNoLookTakesMore steps than Steps tells, as the sets' own meters count them.
func TestNoLookTakesMore(t *testing.T) {
	for _, tag := range tags() {
		has, near, ends := room.Steps(tag)
		n := min(20000, room.Fits(api.MaxCap, tag))
		for seed, l := range [][]uint64{nil, {5}, {0, greatest}, spread(0, n, 1), far(n), spread(9, n, 3), spread(1<<33, n, 1<<17), append(spread(0, n/2, 1), far(n/2)...)} {
			s, e := face.Build(tag, uint64(seed), api.MaxCap, l...)
			same(t, e, api.OK, "Build", tag, len(l))
			took := func(most int, what string, k uint64) {
				t.Helper()
				if s.Taken() > most {
					t.Fatalf("%s %d of %s: %d steps, not %d", what, k, face.Name(tag), s.Taken(), most)
				}
			}
			asked := append(far(300), spread(0, 300, 1)...)
			for i := 0; i < len(l); i += 1 + len(l)/300 {
				asked = append(asked, l[i]-1, l[i], l[i]+1, l[i]^1<<20, l[i]^1<<63)
			}
			for _, k := range append(asked, greatest) {
				s.Has(k)
				took(has, "Has", k)
				s.Next(k)
				took(near, "Next", k)
				s.Prev(k)
				took(near, "Prev", k)
			}
			s.Min()
			took(ends, "Min", 0)
			s.Max()
			took(ends, "Max", 0)
		}
	}
}
