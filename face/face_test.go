package face_test

import (
	"bytes"
	"math"
	"slices"
	"testing"

	"stepstone/api"
	"stepstone/code"
	"stepstone/face"
	"stepstone/roar"
	"stepstone/trie"
	"stepstone/veb"
	"stepstone/xfast"
	"stepstone/yfast"
)

// P20.1

func TestNew(t *testing.T) {
	for _, tag := range tags() {
		for _, limit := range []int{0, 1, 2, 65, 66, 1000, api.MaxCap - 1, api.MaxCap} {
			for _, seed := range []uint64{0, 1, greatest} {
				s := newSet(t, tag, seed, limit)
				same(t, s.Used()+s.Taken(), 0, "Used and Taken", tag, limit)
				has(t, s, tag, limit, nil, "New", tag, limit)
				answers(t, s, nil, tag, limit)
			}
		}
	}
}

// TestSetsAreTheirLayers: with a limit that is too low by one, and one that just is enough, as their own layers' sets.
func TestSetsAreTheirLayers(t *testing.T) {
	for _, tag := range tags() {
		for _, keys := range samples() {
			need := fits(t, tag, keys)
			for _, limit := range []int{need, max(0, need-1), need / 2} {
				s := newSet(t, tag, 3, limit)
				o, e := layer(tag, 4, limit)
				same(t, e, api.OK, "a layer's New")
				for _, k := range keys {
					same(t, s.Insert(k), o.Insert(k), "Insert", tag, k)
					same(t, s.Used(), o.Used(), "Used", tag, k)
					same(t, s.Taken(), o.Taken(), "Taken", tag, k)
				}
				list(t, all(t, s), all(t, o), "All", tag)
			}
		}
	}
}

func TestTagsThereArent(t *testing.T) {
	for _, tag := range wrongTags() {
		for _, limit := range append(wrongLimits(), 0, 1, 100, api.MaxCap) {
			s, e := face.New(tag, 3, limit)
			none(t, s, e, api.ErrArg, "New", tag, limit)
		}
	}
}

func TestLimitsThereCantBe(t *testing.T) {
	for _, tag := range tags() {
		for _, limit := range wrongLimits() {
			s, e := face.New(tag, 3, limit)
			none(t, s, e, api.ErrArg, "New", tag, limit)
		}
	}
}

func TestName(t *testing.T) {
	for tag, want := range []string{1: "veb", 2: "xfast", 3: "yfast", 4: "trie", 5: "roar"} {
		same(t, face.Name(tag), want, "Name", tag)
	}
	for _, tag := range wrongTags() {
		same(t, face.Name(tag), "", "Name", tag)
	}
}

// TestExample: Build 5, 9, 5 of any tag: Rank(9) = 1, Encode: 0, 2, 5, 3.
func TestExample(t *testing.T) {
	for _, tag := range tags() {
		s := build(t, tag, 3, 5, 9, 5)
		same(t, face.Rank(s, 9), 1, "Rank", tag)
		p, e := face.Encode(s)
		same(t, e, api.OK, "Encode", tag)
		list(t, p, []byte{0, 2, 5, 3}, "Encode", tag)
	}
}

func TestAnswers(t *testing.T) {
	for i, keys := range samples() {
		for _, tag := range tags() {
			answers(t, build(t, tag, uint64(i), keys...), keys, tag, i)
		}
	}
}

func TestByHand(t *testing.T) {
	for _, tag := range tags() {
		s := build(t, tag, 1, 5, 9, 100, greatest, 0)
		for k, want := range map[uint64]int{0: 0, 1: 1, 5: 1, 6: 2, 9: 2, 10: 3, 100: 3, 101: 4, greatest - 1: 4, greatest: 4} {
			same(t, face.Rank(s, k), want, "Rank", tag, k)
		}
		for i, want := range []uint64{0, 5, 9, 100, greatest} {
			same(t, find(face.Select(s, i)), found{want, true}, "Select", tag, i)
		}
		for _, i := range []int{math.MinInt, -1, 5, 6, math.MaxInt} {
			same(t, find(face.Select(s, i)), found{}, "Select", tag, i)
		}
		for _, c := range []struct {
			from, to uint64
			n        int
		}{{0, greatest, 5}, {0, 0, 1}, {greatest, greatest, 1}, {1, 4, 0}, {5, 9, 2}, {5, 5, 1}, {6, 9, 1}, {6, 8, 0}, {9, 100, 2}, {101, greatest - 1, 0}, {101, greatest, 1}, {1, greatest - 1, 3}, {0, 8, 2}} {
			same(t, tell(face.Count(s, c.from, c.to)), counted{c.n, api.OK}, "Count", tag, c.from, c.to)
		}
		for _, c := range [][2]uint64{{1, 0}, {9, 5}, {greatest, 0}, {greatest, greatest - 1}} {
			same(t, tell(face.Count(s, c[0], c[1])), counted{0, api.ErrOrder}, "Count", tag, c)
			same(t, tell(face.Wipe(s, c[0], c[1])), counted{0, api.ErrOrder}, "Wipe", tag, c)
		}
		same(t, tell(face.Wipe(s, 6, 100)), counted{2, api.OK}, "Wipe", tag)
		list(t, all(t, s), []uint64{0, 5, greatest}, "behind Wipe", tag)
		same(t, tell(face.Wipe(s, 6, greatest-1)), counted{0, api.OK}, "Wipe of none", tag)
		same(t, tell(face.Wipe(s, greatest, greatest)), counted{1, api.OK}, "Wipe of the greatest", tag)
		same(t, tell(face.Wipe(s, 0, 0)), counted{1, api.OK}, "Wipe of 0", tag)
		list(t, all(t, s), []uint64{5}, "behind Wipe", tag)
		same(t, tell(face.Wipe(s, 0, greatest)), counted{1, api.OK}, "Wipe of all", tag)
		same(t, s.Len()+s.Used(), 0, "behind Wipe of all", tag)
	}
}

// TestAskingChangesNothing, and begins no operation.
func TestAskingChangesNothing(t *testing.T) {
	for _, tag := range tags() {
		for _, keys := range samples() {
			s, o := build(t, tag, 1, keys...), build(t, tag, 2, 5, 9)
			was := tells(s)
			for _, k := range asked(keys) {
				face.Rank(s, k)
				face.Count(s, k, greatest)
				face.Count(s, 0, k)
				face.Count(s, 5, k)
			}
			face.Select(s, len(keys)/2)
			face.Select(s, -1)
			face.Equal(s, o)
			face.Within(s, o)
			face.Within(o, s)
			same(t, tells(s), was, "what is told of it", tag)
			list(t, all(t, s), keys, "its keys", tag)
		}
	}
}

func TestWipe(t *testing.T) {
	for _, keys := range samples() {
		l := asked(keys)
		for n, from := range l {
			for _, to := range []uint64{from - 1, from, from + 1, l[(n+5)%len(l)], l[(3*n+1)%len(l)], greatest} {
				for _, tag := range tags() {
					s := build(t, tag, uint64(n), keys...)
					if from > to {
						was := tells(s)
						same(t, tell(face.Wipe(s, from, to)), counted{0, api.ErrOrder}, "Wipe", tag, from, to)
						same(t, tells(s), was, "what is told behind Wipe", tag, from, to)
						continue
					}
					i, j := between(keys, from, to)
					left := slices.Concat(keys[:i], keys[j:])
					same(t, tell(face.Wipe(s, from, to)), counted{j - i, api.OK}, "Wipe", tag, from, to)
					has(t, s, tag, api.MaxCap, left, "behind Wipe", tag, from, to)
					same(t, tell(face.Wipe(s, from, to)), counted{0, api.OK}, "Wipe again", tag, from, to)
					same(t, tell(face.Count(s, from, to)), counted{0, api.OK}, "Count behind Wipe", tag, from, to)
				}
			}
		}
	}
}

// TestWipeFreesRoom: what was wiped isn't used any more.
func TestWipeFreesRoom(t *testing.T) {
	for _, tag := range tags() {
		keys := spread(1000, 300, 777)
		s, e := face.Build(tag, 3, fits(t, tag, keys), keys...)
		same(t, e, api.OK, "Build", tag)
		for n := range uint64(5) {
			same(t, tell(face.Wipe(s, n, greatest-n)), counted{300, api.OK}, "Wipe", tag)
			same(t, s.Used(), 0, "Used", tag)
			for _, k := range keys {
				same(t, s.Insert(k), api.OK, "Insert", tag, k)
			}
			list(t, all(t, s), keys, "All", tag)
		}
	}
}

// runs lets a set have these ranges, and lets it keep them as runs if it can.
func runs(t *testing.T, s face.Set, ranges ...[2]uint64) {
	t.Helper()
	for _, x := range ranges {
		for k := x[0]; k <= x[1]; k++ {
			same(t, s.Insert(k), api.OK, "Insert", k)
		}
		if r, ok := s.(*roar.Roar); ok {
			r.Optimise()
		}
	}
}

// TestWipeMayBeFull, with tag 5 alone: what is left of a box is plain then.
func TestWipeMayBeFull(t *testing.T) {
	for _, tag := range tags() {
		for _, c := range []struct {
			limit, used int
			ranges      [][2]uint64
			from, to    uint64
			full        bool
			gone        int
		}{
			{100, 98, [][2]uint64{{0, 30}, {65536, 65536 + 93}}, 5, 5, true, 1},
			{1100, 1094, [][2]uint64{{0, 999}, {65536, 65536 + 1089}}, 5, 5, true, 1},
			{1100, 1094, [][2]uint64{{0, 999}, {65536, 65536 + 1089}}, 8, 999, false, 992},
			{1100, 1094, [][2]uint64{{0, 999}, {65536, 65536 + 1089}}, 9, 999, true, 991},
			{1100, 1094, [][2]uint64{{0, 999}, {65536, 65536 + 1089}}, 0, 65536 + 1000, false, 2001},
			{1100, 1094, [][2]uint64{{0, 999}, {65536, 65536 + 1089}}, 900, 65536 + 800, true, 901},
			{1100, 1094, [][2]uint64{{0, 999}, {65536, 65536 + 1089}}, 1000, 65535, false, 0},
			{1100, 1094, [][2]uint64{{0, 999}, {65536, 65536 + 1089}}, 999, 65535, true, 1},
		} {
			if tag != api.Roar {
				c.limit = api.MaxCap
			}
			s := newSet(t, tag, 3, c.limit)
			for i, x := range c.ranges {
				runs(t, s, x)
				if r, ok := s.(*roar.Roar); ok && i == len(c.ranges)-1 {
					// The last range stays plain: so the others' room is used up.
					wiped, e := r.Wipe(x[1], x[1])
					same(t, wiped, 1, "Wipe of the last key")
					same(t, e, api.OK, "Wipe of the last key")
					same(t, r.Insert(x[1]), api.OK, "Insert of the last key")
				}
			}
			l := all(t, s)
			was := tells(s)
			want := counted{c.gone, api.OK}
			if c.full && tag == api.Roar {
				want = counted{0, api.ErrFull}
			}
			if tag == api.Roar {
				same(t, s.Used(), c.used, "Used", c)
			}
			same(t, tell(face.Wipe(s, c.from, c.to)), want, "Wipe", tag, c)
			if want.e == api.OK {
				i, j := between(l, c.from, c.to)
				list(t, all(t, s), slices.Concat(l[:i], l[j:]), "behind Wipe", tag, c)
				continue
			}
			same(t, tells(s), was, "what is told behind Wipe", tag, c)
			same(t, tell(face.Wipe(s, c.to+1, c.from)), counted{0, api.ErrOrder}, "Wipe of what is full, from above to", tag, c)
			same(t, tells(s), was, "what is told behind Wipe", tag, c)
			list(t, all(t, s), l, "behind Wipe", tag, c)
			same(t, tell(face.Wipe(s, 0, greatest)), counted{len(l), api.OK}, "Wipe of all", tag, c)
		}
	}
}

// P20.2

func TestBuild(t *testing.T) {
	for _, keys := range samples() {
		for _, order := range [][]uint64{keys, shuffled(keys, 1), slices.Concat(keys, keys), shuffled(slices.Concat(keys, keys, keys), 2), slices.Sorted(slices.Values(slices.Concat(keys, keys)))} {
			for _, tag := range tags() {
				for _, seed := range []uint64{0, 3, greatest} {
					s, e := face.Build(tag, seed, api.MaxCap, order...)
					same(t, e, api.OK, "Build", tag)
					has(t, s, tag, api.MaxCap, keys, "Build", tag)
				}
			}
		}
	}
}

// TestBuildJustFits: with the least limit that is enough, and with one less.
func TestBuildJustFits(t *testing.T) {
	for i, keys := range samples() {
		for _, tag := range tags() {
			need := fits(t, tag, keys)
			for _, order := range [][]uint64{keys, shuffled(keys, 1), shuffled(slices.Concat(keys, keys), 2)} {
				s, e := face.Build(tag, uint64(i), need, order...)
				same(t, e, api.OK, "Build", tag, i, need)
				has(t, s, tag, need, keys, "Build", tag, i)
				for _, limit := range []int{need - 1, need - 2, need / 2, 0} {
					if limit < 0 || limit >= need {
						continue
					}
					s, e = face.Build(tag, uint64(i), limit, order...)
					none(t, s, e, api.ErrFull, "Build", tag, i, limit)
				}
			}
			if len(keys) > 0 {
				one := max(fits(t, tag, keys[:len(keys)-1]), need-1)
				if one < need {
					s, e := face.Build(tag, uint64(i), one, keys[:len(keys)-1]...)
					same(t, e, api.OK, "Build of one key less", tag, i)
					has(t, s, tag, one, keys[:len(keys)-1], "Build of one key less", tag, i)
				}
			}
		}
	}
}

// TestBuildIsFullByHand: how much the keys use is counted by hand here.
func TestBuildIsFullByHand(t *testing.T) {
	for _, c := range []struct {
		keys                          []uint64
		veb, xfast, yfast, trie, roar int
	}{
		{nil, 0, 0, 0, 0, 0},
		{[]uint64{5}, 1, 66, 68, 11, 2},
		{[]uint64{5, 9}, 1, 71, 69, 11, 3},
		{[]uint64{0, greatest}, 1, 131, 69, 21, 4},
		{[]uint64{1, 2, 3}, 3, 71, 70, 11, 4},
	} {
		for i, need := range []int{c.veb, c.xfast, c.yfast, c.trie, c.roar} {
			s, e := face.Build(i+1, 8, need, c.keys...)
			same(t, e, api.OK, "Build", i+1, c.keys)
			same(t, s.Used(), need, "Used", i+1, c.keys)
			if need > 0 {
				s, e = face.Build(i+1, 8, need-1, c.keys...)
				none(t, s, e, api.ErrFull, "Build", i+1, c.keys)
			}
		}
	}
}

// TestBuildOneByOne: what is full on the way is full, though all together would need less.
func TestBuildOneByOne(t *testing.T) {
	keys := shuffled(spread(0, 5000, 1), 1)
	s, e := face.Build(api.Roar, 0, 4096, keys...)
	none(t, s, e, api.ErrFull, "Build")
	s, e = face.Build(api.Roar, 0, 4097, keys...)
	same(t, e, api.OK, "Build")
	same(t, s.Used(), 1025, "Used")
	has(t, s, api.Roar, 4097, rising(keys), "Build")
	for _, limit := range []int{4096, 4097} {
		o, e := face.Join(face.OpOr, api.Roar, 0, limit, s)
		if limit == 4096 {
			none(t, o, e, api.ErrFull, "Join")
			continue
		}
		same(t, e, api.OK, "Join")
		has(t, o, api.Roar, limit, rising(keys), "Join")
	}
}

// TestBuildRises: of the keys of a yfast the buckets hang on the order in which they came.
func TestBuildRises(t *testing.T) {
	keys := spread(0, 1000, 3)
	o, e := yfast.New(1, api.MaxCap)
	same(t, e, api.OK, "a layer's New")
	same(t, o.Each(keys...), 1000, "Each")
	for seed := range uint64(5) {
		s := build(t, api.YFast, seed, shuffled(keys, seed)...)
		same(t, s.Used(), o.Used(), "Used", seed)
	}
}

// newsErrors holds that a call that makes a set answers New's errors, whatever else is wrong.
func newsErrors(t *testing.T, what string, f func(tag int, seed uint64, limit int) (face.Set, api.Errno)) {
	t.Helper()
	for _, tag := range wrongTags() {
		for _, limit := range []int{-1, 0, 1, 100, api.MaxCap, api.MaxCap + 1} {
			s, e := f(tag, 3, limit)
			none(t, s, e, api.ErrArg, what, tag, limit)
		}
	}
	for _, tag := range tags() {
		for _, limit := range wrongLimits() {
			s, e := f(tag, 3, limit)
			none(t, s, e, api.ErrArg, what, tag, limit)
		}
	}
}

func TestNewsErrors(t *testing.T) {
	some := build(t, 1, 2, 5, 9)
	for _, keys := range [][]uint64{nil, {5}, far(20)} {
		newsErrors(t, "Build", func(tag int, seed uint64, limit int) (face.Set, api.Errno) {
			return face.Build(tag, seed, limit, keys...)
		})
	}
	for op := -1; op < 5; op++ {
		for _, l := range [][]face.Set{nil, {some}, {nil, some, some}} {
			newsErrors(t, "Join", func(tag int, seed uint64, limit int) (face.Set, api.Errno) {
				return face.Join(op, tag, seed, limit, l...)
			})
		}
	}
	for _, p := range []string{"", "\x00", "\x00\x00", "\x00\x02\x05\x03", "\x01\x00", "\xff"} {
		newsErrors(t, "Decode", func(tag int, seed uint64, limit int) (face.Set, api.Errno) {
			return face.Decode([]byte(p), tag, seed, limit)
		})
	}
}

// sets are of these lists, with tags and seeds of all kinds; a nil list's Set is nil.
func sets(t *testing.T, first int, l ...[]uint64) []face.Set {
	t.Helper()
	var r []face.Set
	for i, keys := range l {
		if keys == nil {
			r = append(r, nil)
		} else {
			r = append(r, build(t, 1+(first+i*i+i)%5, uint64(i), keys...))
		}
	}
	return r
}

// joins holds what Join makes of these lists, with all ops and tags, against the plain way.
func joins(t *testing.T, l ...[]uint64) {
	t.Helper()
	for _, tag := range tags() {
		x := sets(t, tag, l...)
		var was []told
		for _, s := range x {
			if s != nil {
				was = append(was, tells(s))
			}
		}
		for _, op := range ops() {
			want := joined(op, l...)
			s, e := face.Join(op, tag, uint64(op), api.MaxCap, x...)
			same(t, e, api.OK, "Join", op, tag)
			has(t, s, tag, api.MaxCap, want, "Join", op, tag, len(l))
			need := fits(t, tag, want)
			s, e = face.Join(op, tag, 9, need, x...)
			same(t, e, api.OK, "Join that just fits", op, tag)
			has(t, s, tag, need, want, "Join that just fits", op, tag)
			if need > 0 {
				s, e = face.Join(op, tag, 9, need-1, x...)
				none(t, s, e, api.ErrFull, "Join", op, tag)
			}
		}
		for i, s := range x {
			if s != nil {
				same(t, tells(s), was[0], "what is told of a joined one", tag, i)
				list(t, all(t, s), l[i], "a joined one", tag, i)
				was = was[1:]
			}
		}
	}
}

func TestJoinOfNone(t *testing.T) {
	joins(t)
	for _, tag := range tags() {
		for _, op := range ops() {
			s, e := face.Join(op, tag, 0, 0, []face.Set{}...)
			same(t, e, api.OK, "Join of none", op, tag)
			has(t, s, tag, 0, nil, "Join of none", op, tag)
		}
	}
}

func TestJoinOfOne(t *testing.T) {
	for _, l := range samples() {
		joins(t, l)
	}
}

func TestJoinOfTwo(t *testing.T) {
	for i, a := range samples() {
		for j, b := range samples() {
			if (i+2*j)%5 == 0 || i == j {
				joins(t, a, b)
			}
		}
	}
	joins(t, []uint64{0, 3, 5, 8, greatest}, []uint64{1, 3, 4, 8, 9})
}

func TestJoinOfMany(t *testing.T) {
	l := samples()
	number := numbers(4)
	for n := 3; n <= 9; n++ {
		for range 3 {
			var x [][]uint64
			for range n {
				x = append(x, l[number(len(l))])
			}
			joins(t, x...)
		}
	}
	joins(t, l...)
	joins(t, []uint64{1, 2, 3, 4}, []uint64{2, 4, 6}, []uint64{3, 4, 6, 9})
	joins(t, nil, []uint64{2, 4, 6}, []uint64{3, 4, 6, 9})
	joins(t, []uint64{2, 4, 6}, nil, []uint64{3, 4, 6, 9}, nil)
}

// TestJoinByHand holds the plain way, too.
func TestJoinByHand(t *testing.T) {
	a, b, c := []uint64{1, 2, 3, 4}, []uint64{2, 4, 6}, []uint64{3, 4, 6, greatest}
	for op, want := range [][]uint64{{1, 2, 3, 4, 6, greatest}, {4}, {1}, {1, 4, greatest}} {
		list(t, joined(op, a, b, c), want, "the plain way", op)
		for _, tag := range tags() {
			s, e := face.Join(op, tag, 5, 1000, sets(t, tag, a, b, c)...)
			same(t, e, api.OK, "Join", op, tag)
			has(t, s, tag, 1000, want, "Join", op, tag)
		}
	}
	for op, want := range [][]uint64{{2, 3, 4, 6, greatest}, nil, nil, {2, 3, greatest}} {
		s, e := face.Join(op, api.Trie, 5, 1000, append([]face.Set{nil}, sets(t, 2, b, c)...)...)
		same(t, e, api.OK, "Join", op)
		has(t, s, api.Trie, 1000, want, "Join with a nil one", op)
	}
}

// TestTheSameSetTwice, and more often.
func TestTheSameSetTwice(t *testing.T) {
	for _, keys := range samples() {
		for _, tag := range tags() {
			s := build(t, tag, 7, keys...)
			for n := 2; n <= 5; n++ {
				l, lists := []face.Set(nil), [][]uint64(nil)
				for range n {
					l, lists = append(l, s), append(lists, keys)
				}
				for _, op := range ops() {
					o, e := face.Join(op, 1+(tag+n)%5, 1, api.MaxCap, l...)
					same(t, e, api.OK, "Join", op, tag, n)
					list(t, all(t, o), joined(op, lists...), "Join", op, tag, n)
				}
			}
			same(t, face.Equal(s, s), true, "Equal", tag)
			same(t, face.Within(s, s), true, "Within", tag)
			list(t, all(t, s), keys, "the set itself", tag)
		}
	}
}

// TestOpsThereArent: ErrArg, also of none, and where there would be no room.
func TestOpsThereArent(t *testing.T) {
	some := build(t, 3, 2, far(40)...)
	for _, op := range []int{math.MinInt, -1 << 32, -4, -2, -1, 4, 5, 255, 256, 1 << 32, 1<<32 + 1, math.MaxInt} {
		for _, tag := range tags() {
			for _, l := range [][]face.Set{nil, {nil}, {some}, {some, nil, some}} {
				for _, limit := range []int{0, 1, api.MaxCap} {
					s, e := face.Join(op, tag, 3, limit, l...)
					none(t, s, e, api.ErrArg, "Join", op, tag, limit)
				}
			}
		}
	}
}

// TestJoinedIsNew: it shares nothing with what was joined.
func TestJoinedIsNew(t *testing.T) {
	for _, tag := range tags() {
		for _, op := range ops() {
			keys, other := spread(0, 100, 3), spread(0, 100, 2)
			l := []face.Set{build(t, tag, 1, keys...), build(t, 1+tag%5, 1, other...)}
			if op == face.OpOr {
				l = l[:1]
			}
			want := joined(op, [][]uint64{keys, other}[:len(l)]...)
			s, e := face.Join(op, tag, 2, api.MaxCap, l...)
			same(t, e, api.OK, "Join", op, tag)
			same(t, s.Insert(1<<40), api.OK, "Insert", op, tag)
			same(t, tell(face.Wipe(s, 0, 100)), counted{below(want, 101), api.OK}, "Wipe", op, tag)
			list(t, all(t, l[0]), keys, "what was joined", op, tag)
			l[0].Clear()
			l[0].Insert(7)
			l[0] = nil
			list(t, all(t, s), append(want[below(want, 101):len(want):len(want)], 1<<40), "what was made", op, tag)
		}
	}
}

func TestEqualAndWithin(t *testing.T) {
	l := samples()
	l = append(l, l[10][1:], l[10][:5], append(slices.Clone(l[11]), 71), l[11][:69], l[16][1:], spread(3, 200, 2)[:199])
	for i, a := range l {
		for j, b := range l {
			equal, within := slices.Equal(a, b), len(joined(face.OpLess, a, b)) == 0
			for tag := range 5 {
				x := sets(t, tag+i+j, a, b)
				same(t, face.Equal(x[0], x[1]), equal, "Equal", i, j)
				same(t, face.Equal(x[1], x[0]), equal, "Equal", j, i)
				same(t, face.Within(x[0], x[1]), within, "Within", i, j)
			}
		}
	}
}

// TestEqualOfAllTags: with each tag against each.
func TestEqualOfAllTags(t *testing.T) {
	for _, keys := range [][]uint64{{}, {0}, {5, 9, greatest}, spread(60, 300, 7)} {
		for _, one := range tags() {
			for _, two := range tags() {
				a, b := build(t, one, 3, keys...), build(t, two, 4, shuffled(keys, 3)...)
				same(t, face.Equal(a, b), true, "Equal", one, two)
				same(t, face.Within(a, b), true, "Within", one, two)
				same(t, b.Insert(7), api.OK, "Insert")
				same(t, face.Equal(a, b), false, "Equal", one, two)
				same(t, face.Equal(b, a), false, "Equal", one, two)
				same(t, face.Within(a, b), true, "Within", one, two)
				same(t, face.Within(b, a), false, "Within", one, two)
				same(t, a.Insert(8), api.OK, "Insert")
				same(t, face.Equal(a, b), false, "Equal", one, two)
				same(t, face.Within(a, b), false, "Within", one, two)
			}
		}
	}
}

// TestHowItIsKept: a roar as runs has the same keys, and other used.
func TestHowItIsKept(t *testing.T) {
	keys := slices.Concat(spread(0, 5000, 1), spread(1<<40, 300, 1))
	for _, tag := range tags() {
		s, r := build(t, tag, 1, keys...), build(t, api.Roar, 1, keys...).(*roar.Roar)
		same(t, r.Optimise(), 2, "Optimise")
		same(t, face.Equal(s, r), true, "Equal", tag)
		same(t, face.Within(r, s), true, "Within", tag)
		same(t, face.Rank(r, 1<<40+5), 5005, "Rank", tag)
		p, _ := face.Encode(s)
		q, _ := face.Encode(r)
		list(t, q, p, "Encode", tag)
		o, e := face.Join(face.OpXor, tag, 3, 0, s, r)
		same(t, e, api.OK, "Join", tag)
		same(t, o.Len(), 0, "Join", tag)
		same(t, r.Used(), 6, "Used", tag)
	}
}

// P20.3

func TestEncodeAndDecode(t *testing.T) {
	for i, keys := range samples() {
		want, e := code.Keys(keys)
		same(t, e, api.OK, "layer 19's Keys")
		for _, tag := range tags() {
			s := build(t, tag, uint64(i), keys...)
			p, e := face.Encode(s)
			same(t, e, api.OK, "Encode", tag, i)
			list(t, p, want, "Encode", tag, i)
			for _, into := range tags() {
				o, e := face.Decode(p, into, uint64(tag), api.MaxCap)
				same(t, e, api.OK, "Decode", tag, into, i)
				has(t, o, into, api.MaxCap, keys, "Decode", tag, into, i)
				same(t, face.Equal(s, o), true, "Equal", tag, into, i)
			}
		}
	}
}

func TestDecodeJustFits(t *testing.T) {
	for i, keys := range samples() {
		p, _ := code.Keys(keys)
		for _, tag := range tags() {
			need := fits(t, tag, keys)
			s, e := face.Decode(p, tag, uint64(i), need)
			same(t, e, api.OK, "Decode", tag, i)
			has(t, s, tag, need, keys, "Decode", tag, i)
			for _, limit := range []int{need - 1, need / 2, 0} {
				if limit >= 0 && limit < need {
					s, e = face.Decode(p, tag, uint64(i), limit)
					none(t, s, e, api.ErrFull, "Decode", tag, i, limit)
				}
			}
		}
	}
}

// TestDecodeOfOthers: bytes of pairs, of none, with a byte more or less; whatever the room.
func TestDecodeOfOthers(t *testing.T) {
	wrong := [][]byte{nil, {}, {0}, {2, 0}, {1, 0}, {255}, {0, 1}, {0, 1, 128}, {0, 1, 128, 0}, {0, 0, 0}, {0, 2, 5}, {0, 1, 5, 6}, []byte("\x00\x02\xff\xff\xff\xff\xff\xff\xff\xff\xff\x01\x00"), []byte("\x00\xff\xff\xff\xff\xff\xff\xff\xff\xff\x01")}
	for _, keys := range samples() {
		var pairs []api.Pair
		for _, k := range keys {
			pairs = append(pairs, api.Pair{Key: k, Value: k % 200})
		}
		p, e := code.Pairs(pairs)
		same(t, e, api.OK, "layer 19's Pairs")
		wrong = append(wrong, p)
		p, e = code.Keys(keys)
		same(t, e, api.OK, "layer 19's Keys")
		wrong = append(wrong, p[:len(p)-1], append(bytes.Clone(p), 0), append(bytes.Clone(p), p...))
		p = bytes.Clone(p)
		p[0] = 2
		wrong = append(wrong, p)
	}
	for _, p := range wrong {
		for _, tag := range tags() {
			for _, limit := range []int{0, 1, 100, api.MaxCap} {
				s, e := face.Decode(p, tag, 3, limit)
				none(t, s, e, api.ErrForm, "Decode", tag, limit, p[:min(len(p), 30)])
			}
		}
	}
	// More keys than there may be.
	p := append(append([]byte{0}, code.Number(api.MaxKeys+1)...), make([]byte, api.MaxKeys+1)...)
	for _, tag := range tags() {
		s, e := face.Decode(p, tag, 3, api.MaxCap)
		none(t, s, e, api.ErrForm, "Decode of more than MaxKeys", tag)
	}
}

// TestMaxKeys: as many keys as bytes can tell, and one more.
func TestMaxKeys(t *testing.T) {
	keys := spread(1<<30, api.MaxKeys, 1)
	p, e := code.Keys(keys)
	same(t, e, api.OK, "layer 19's Keys")
	for _, tag := range tags() {
		s, e := face.Decode(p, tag, 3, api.MaxCap)
		same(t, e, api.OK, "Decode", tag)
		same(t, s.Len(), api.MaxKeys, "Len", tag)
		q, e := face.Encode(s)
		same(t, e, api.OK, "Encode", tag)
		list(t, q, p, "Encode", tag)
		same(t, s.Insert(7), api.OK, "Insert", tag)
		q, e = face.Encode(s)
		same(t, e, api.ErrArg, "Encode of one key more", tag)
		same(t, len(q), 0, "the bytes beside an error", tag)
		same(t, s.Delete(1<<30+5), api.OK, "Delete", tag)
		q, e = face.Encode(s)
		same(t, e, api.OK, "Encode", tag)
		left, e := code.Keys(slices.Concat([]uint64{7}, keys[:5], keys[6:]))
		same(t, e, api.OK, "layer 19's Keys")
		list(t, q, left, "Encode of others", tag)
	}
	r, _ := roar.New(api.MaxCap)
	r.Fill(0, 1<<25)
	q, e := face.Encode(r)
	same(t, e, api.ErrArg, "Encode of very many")
	same(t, len(q), 0, "the bytes beside an error")
}

// TestNilSet: it has no keys; but Count and Wipe say that there is none.
func TestNilSet(t *testing.T) {
	for _, k := range append(about(0), about(greatest)...) {
		same(t, face.Rank(nil, k), 0, "Rank", k)
		same(t, find(face.Select(nil, int(k))), found{}, "Select", k)
		for _, to := range append(about(0), about(greatest)...) {
			same(t, tell(face.Count(nil, k, to)), counted{0, api.ErrNone}, "Count", k, to)
			same(t, tell(face.Wipe(nil, k, to)), counted{0, api.ErrNone}, "Wipe", k, to)
		}
	}
	same(t, find(face.Select(nil, 0)), found{}, "Select")
	p, e := face.Encode(nil)
	same(t, e, api.OK, "Encode")
	list(t, p, []byte{0, 0}, "Encode")
	same(t, face.Equal(nil, nil), true, "Equal")
	same(t, face.Within(nil, nil), true, "Within")
	for _, tag := range tags() {
		empty, some := newSet(t, tag, 1, 0), build(t, tag, 1, 0)
		same(t, face.Equal(nil, empty), true, "Equal", tag)
		same(t, face.Equal(empty, nil), true, "Equal", tag)
		same(t, face.Equal(nil, some), false, "Equal", tag)
		same(t, face.Equal(some, nil), false, "Equal", tag)
		same(t, face.Within(nil, empty), true, "Within", tag)
		same(t, face.Within(empty, nil), true, "Within", tag)
		same(t, face.Within(nil, some), true, "Within", tag)
		same(t, face.Within(some, nil), false, "Within", tag)
		for _, op := range ops() {
			s, e := face.Join(op, tag, 0, 0, nil, nil, nil)
			same(t, e, api.OK, "Join", op, tag)
			has(t, s, tag, 0, nil, "Join of nil ones", op, tag)
			s, e = face.Join(op, tag, 0, 0, nil)
			same(t, e, api.OK, "Join", op, tag)
			has(t, s, tag, 0, nil, "Join of a nil one", op, tag)
		}
	}
}

// TestNilOfALayer: nothing is promised of it, but that each call ends.
func TestNilOfALayer(t *testing.T) {
	for _, s := range []face.Set{(*veb.VEB)(nil), (*xfast.XFast)(nil), (*yfast.YFast)(nil), (*trie.Trie)(nil), (*roar.Roar)(nil)} {
		face.Rank(s, 5)
		face.Select(s, 0)
		face.Count(s, 0, greatest)
		face.Count(s, 5, 3)
		face.Wipe(s, 0, greatest)
		face.Wipe(s, 5, 3)
		face.Equal(s, s)
		face.Within(s, nil)
		face.Encode(s)
		for _, op := range ops() {
			face.Join(op, 1, 2, 3, s, s, nil)
		}
	}
}

// Rules that hold everywhere

// TestHandedIn: lists and bytes that are handed in are neither changed nor kept, and their spare room isn't either.
func TestHandedIn(t *testing.T) {
	for _, tag := range tags() {
		room := []uint64{9, 3, 9, 1, 77, 78}
		s, e := face.Build(tag, 3, 1000, room[:4]...)
		same(t, e, api.OK, "Build", tag)
		list(t, room, []uint64{9, 3, 9, 1, 77, 78}, "what was handed to Build", tag)
		clear(room)
		list(t, all(t, s), []uint64{1, 3, 9}, "Build", tag)
		a, b, c := build(t, tag, 1, 1, 5), build(t, 1+tag%5, 1, 2, 5), build(t, tag, 1, 99)
		l := []face.Set{a, b, c}
		for _, op := range ops() {
			_, e = face.Join(op, tag, 3, 1000, l[:2]...)
			same(t, e, api.OK, "Join", tag)
			same(t, l[0] == a && l[1] == b && l[2] == c, true, "what was handed to Join", tag, op)
		}
		p := []byte{0, 3, 5, 0, 165, 2, 7, 8}
		s, e = face.Decode(p[:6], tag, 3, 1000)
		same(t, e, api.OK, "Decode", tag)
		list(t, p, []byte{0, 3, 5, 0, 165, 2, 7, 8}, "what was handed to Decode", tag)
		clear(p)
		list(t, all(t, s), []uint64{5, 6, 300}, "Decode", tag)
	}
}

// TestBytesAreNewMemory: two answers share none, spare room too.
func TestBytesAreNewMemory(t *testing.T) {
	for _, tag := range tags() {
		s := build(t, tag, 3, 5, 6, 300)
		a, _ := face.Encode(s)
		b, _ := face.Encode(s)
		clear(a[:cap(a)])
		list(t, b, []byte{0, 3, 5, 0, 165, 2}, "another answer", tag)
		c, _ := face.Encode(s)
		list(t, c, b, "a later answer", tag)
	}
	a, _ := face.Encode(nil)
	b, _ := face.Encode(nil)
	a[0] = 7
	list(t, b, []byte{0, 0}, "another answer of none")
}
