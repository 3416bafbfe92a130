package roar_test

import (
	"iter"
	"math"
	"slices"
	"testing"

	"stepstone/api"
	"stepstone/box"
	"stepstone/count"
	"stepstone/roar"
)

// wrongLimits are those that there can't be.
func wrongLimits() []int {
	return []int{math.MinInt, math.MinInt + 1, -1 << 32, -api.MaxCap, -2, -1, api.MaxCap + 1, api.MaxCap + 2, 2 * api.MaxCap, 1 << 32, math.MaxInt - 1, math.MaxInt}
}

// P17.1

func TestNew(t *testing.T) {
	for _, limit := range []int{0, 1, 2, 3, 1024, 1025, 4096, api.MaxCap - 1, api.MaxCap} {
		h := hold(t, limit)
		same(t, tell(h.r.Meter), steps{}, "steps at first")
		h.behind(0, "New", limit)
		h.whole()
	}
}

func TestLimitsThereCantBe(t *testing.T) {
	for _, limit := range wrongLimits() {
		r, e := roar.New(limit)
		same(t, e, api.ErrArg, "New", limit)
		same(t, r, nil, "New", limit)
	}
}

// TestExample: 5 and 65536 are in two boxes, and use 4.
func TestExample(t *testing.T) {
	for _, l := range [][]uint64{{5, 65536}, {65536, 5}} {
		r := newRoar(t, 4)
		for i, k := range l {
			same(t, r.Insert(k), api.OK, "Insert", k)
			same(t, r.Boxes(), i+1, "Boxes")
			same(t, r.Used(), 2*i+2, "Used")
		}
		same(t, r.Insert(6), api.ErrFull, "Insert")
	}
}

func TestSamples(t *testing.T) {
	for name, l := range samples() {
		for _, order := range [][]uint64{l, rising(l), reversed(rising(l)), shuffled(l, 7)} {
			h := filled(t, api.MaxCap, order)
			list(t, h.all(), rising(l), name)
			h.whole()
			for _, k := range l {
				same(t, h.insert(k), api.ErrExists, "Insert", k)
			}
			h.all()
		}
	}
}

// TestSamplesFall: what is left is asked on the way, too.
func TestSamplesFall(t *testing.T) {
	for _, l := range samples() {
		for _, order := range [][]uint64{l, rising(l), reversed(rising(l)), shuffled(l, 2)} {
			h := hold(t, api.MaxCap)
			same(t, h.each(shuffled(l, 1)...), len(l), "Each")
			for i, k := range order {
				same(t, h.delete(k), api.OK, "Delete", k)
				same(t, h.delete(k), api.ErrNone, "Delete", k)
				h.asked(k)
				if i%20 == 0 {
					h.all()
					h.min()
					h.max()
				}
			}
			same(t, h.r.Used()+h.r.Len()+h.r.Boxes(), 0, "Used, Len, Boxes at last")
			h.whole()
			same(t, h.each(l...), len(l), "Each, behind the last one")
			h.all()
		}
	}
}

func TestNextAndPrev(t *testing.T) {
	h := filled(t, api.MaxCap, []uint64{70, 5, 1 << 40, 9, 1 << 63})
	for k, want := range map[uint64]uint64{0: 5, 5: 5, 6: 9, 9: 9, 10: 70, 70: 70, 71: 1 << 40, 65536: 1 << 40, 1<<40 - 1: 1 << 40, 1 << 40: 1 << 40, 1<<40 + 1: 1 << 63, 1<<63 - 1: 1 << 63, 1 << 63: 1 << 63} {
		same(t, find(h.r.Next(k)), found{want, true}, "Next", k)
	}
	for k, want := range map[uint64]uint64{5: 5, 8: 5, 9: 9, 69: 9, 70: 70, 127: 70, 65536: 70, 1<<40 - 1: 70, 1 << 40: 1 << 40, 1<<63 - 1: 1 << 40, 1 << 63: 1 << 63, 1<<63 + 1: 1 << 63, greatest: 1 << 63} {
		same(t, find(h.r.Prev(k)), found{want, true}, "Prev", k)
	}
	for _, k := range []uint64{1<<63 + 1, 1<<63 + 65536, greatest} {
		same(t, find(h.r.Next(k)), found{}, "Next", k)
	}
	for _, k := range []uint64{0, 1, 4} {
		same(t, find(h.r.Prev(k)), found{}, "Prev", k)
	}
}

// TestOverTheEdgesOfBoxes: what is beside a key may be in the box beside its own, above and below it, or its upper may have none.
func TestOverTheEdgesOfBoxes(t *testing.T) {
	for _, u := range []uint64{0, 1, 7, 1 << 20, 1<<48 - 12} {
		at := func(i, lower uint64) uint64 { return (u+i)<<16 | lower }
		h := filled(t, api.MaxCap, []uint64{at(1, 65535), at(2, 0), at(4, 0), at(4, 65535), at(7, 9)})
		for k, want := range map[uint64]uint64{at(0, 0): at(1, 65535), at(0, 65535): at(1, 65535), at(1, 65534): at(1, 65535), at(2, 1): at(4, 0), at(3, 0): at(4, 0), at(3, 65535): at(4, 0), at(4, 1): at(4, 65535), at(5, 0): at(7, 9), at(6, 65535): at(7, 9)} {
			same(t, h.next(k), found{want, true}, "Next", k)
		}
		for k, want := range map[uint64]uint64{at(9, 0): at(7, 9), at(7, 8): at(4, 65535), at(5, 0): at(4, 65535), at(4, 65534): at(4, 0), at(3, 65535): at(2, 0), at(3, 0): at(2, 0), at(2, 0): at(2, 0), at(1, 65535): at(1, 65535)} {
			same(t, h.prev(k), found{want, true}, "Prev", k)
		}
		for _, k := range []uint64{at(7, 10), at(8, 0), greatest} {
			same(t, h.next(k), found{}, "Next", k)
		}
		for _, k := range []uint64{at(1, 65534), at(1, 0), at(0, 65535), 0} {
			same(t, h.prev(k), found{}, "Prev", k)
		}
		h.whole()
	}
}

func TestTheFirstAndTheLastKey(t *testing.T) {
	h := hold(t, 4)
	none := found{}
	same(t, h.insert(greatest), api.OK, "Insert")
	same(t, h.next(0), found{greatest, true}, "Next")
	same(t, h.next(greatest), found{greatest, true}, "Next")
	same(t, h.prev(greatest-1), none, "Prev")
	same(t, h.insert(0), api.OK, "Insert")
	same(t, h.prev(0), found{0, true}, "Prev")
	same(t, h.next(1), found{greatest, true}, "Next")
	same(t, h.prev(greatest-1), found{0, true}, "Prev")
	same(t, h.min(), found{0, true}, "Min")
	same(t, h.max(), found{greatest, true}, "Max")
	same(t, h.r.Used(), 4, "Used")
	same(t, h.insert(1), api.ErrFull, "Insert")
	same(t, h.delete(0), api.OK, "Delete")
	same(t, h.min(), found{greatest, true}, "Min")
	same(t, h.insert(1), api.OK, "Insert")
	same(t, h.delete(greatest), api.OK, "Delete")
	same(t, h.max(), found{1, true}, "Max")
	same(t, h.next(2), none, "Next")
	same(t, h.prev(0), none, "Prev")
	same(t, h.delete(1), api.OK, "Delete")
	same(t, h.min(), none, "Min")
	same(t, h.max(), none, "Max")
	same(t, h.r.Used(), 0, "Used")
}

// TestEmpty: of none there is nothing to find and nothing to delete, at first and behind the last key.
func TestEmpty(t *testing.T) {
	for _, limit := range []int{0, 1, 2, 3, 500, api.MaxCap} {
		h := hold(t, limit)
		for range 3 {
			for _, k := range append(about(0), about(greatest)...) {
				h.stays(func() { same(t, h.delete(k), api.ErrNone, "Delete", k) })
				same(t, h.has(k), false, "Has", k)
				same(t, h.next(k), found{}, "Next", k)
				same(t, h.prev(k), found{}, "Prev", k)
				same(t, h.wipe(0, k), changed{}, "Wipe", k)
			}
			same(t, h.optimise(), 0, "Optimise")
			same(t, h.plain(), api.OK, "Plain")
			if h.insert(1<<63) == api.OK {
				same(t, h.delete(1<<63), api.OK, "Delete")
			}
		}
	}
}

// TestDeleteOfOthers: of a key that isn't in it nothing goes, how near it may be.
func TestDeleteOfOthers(t *testing.T) {
	for _, l := range [][]uint64{{0}, {5}, {0x0123_4567_89ab_cdef, greatest}, {0, 9, greatest}, spread(10, 200, 3), far(50)} {
		h := filled(t, api.MaxCap, l)
		for _, k := range []uint64{l[0], l[len(l)-1], l[len(l)/2]} {
			for _, o := range about(k) {
				if !slices.Contains(l, o) {
					h.stays(func() { same(t, h.delete(o), api.ErrNone, "Delete", o) })
				}
			}
		}
		h.whole()
		for _, k := range l {
			same(t, h.insert(k), api.ErrExists, "Insert", k)
			same(t, h.delete(k), api.OK, "Delete", k)
			same(t, h.delete(k), api.ErrNone, "Delete", k)
		}
		h.whole()
	}
}

// TestUsed is counted by hand here, so that the model is held against the document, too.
func TestUsed(t *testing.T) {
	for _, c := range []struct {
		keys        []uint64
		boxes, used int
	}{
		{nil, 0, 0},
		{[]uint64{0}, 1, 2},
		{[]uint64{greatest}, 1, 2},
		{[]uint64{5, 6}, 1, 3},
		{[]uint64{5, 65535}, 1, 3},
		{[]uint64{5, 65536}, 2, 4},
		{[]uint64{65535, 65536}, 2, 4},
		{[]uint64{0, greatest}, 2, 4},
		{[]uint64{65535, 65536, 131071, 131072}, 3, 7},
		{spread(0, 100, 1), 1, 101},
		{spread(0, 100, 65536), 100, 200},
		{far(300), 300, 600},
		{spread(1<<30, arrayMost, 16), 1, 4097},
		{spread(1<<30, arrayMost+1, 15), 1, 1025},
		{append(spread(1<<30, arrayMost+1, 15), 1<<30-1), 2, 1027},
		{spread(1<<30, 1<<16, 1), 1, 1025},
		{spread(1<<30+60000, 1<<16, 1), 2, 2050},
		{spread(1<<30+1<<16-arrayMost, 2*arrayMost, 1), 2, 8194},
		{spread(1<<30+1<<16-arrayMost-1, 2*arrayMost+1, 1), 2, 1025 + 4097},
	} {
		for _, order := range [][]uint64{c.keys, reversed(c.keys), shuffled(c.keys, 4)} {
			r := newRoar(t, api.MaxCap)
			same(t, r.Each(order...), len(order), "Each")
			same(t, r.Used(), c.used, "Used", len(order))
			same(t, r.Boxes(), c.boxes, "Boxes", len(order))
			same(t, r.Len(), len(order), "Len")
			list(t, slices.Collect(r.All()), rising(order), "All")
		}
	}
}

// TestLimitsWithoutAKey: a box uses 1, and a key at least another 1.
func TestLimitsWithoutAKey(t *testing.T) {
	for _, limit := range []int{0, 1} {
		h := hold(t, limit)
		for _, k := range append(about(0), about(0x0123_4567_89ab_cdef)...) {
			same(t, h.insert(k), api.ErrFull, "Insert", k)
			same(t, h.delete(k), api.ErrNone, "Delete", k)
			same(t, h.each(k, k), 0, "Each", k)
			same(t, h.fill(k, k), changed{0, api.ErrFull}, "Fill", k)
			same(t, h.wipe(k, k), changed{}, "Wipe", k)
			h.all()
			h.asked(k)
		}
	}
}

// TestLimitsOfFewKeys: a key whose upper has a box uses one more, another one two.
func TestLimitsOfFewKeys(t *testing.T) {
	for _, k := range []uint64{0, 65535, 1 << 32, 1 << 63, greatest} {
		near, away := k^1, k^1<<16
		for limit, l := range map[int][]uint64{2: {k}, 3: {k, near}, 4: {k, away}, 5: {k, away, near}, 6: {k, away, k ^ 1<<40}} {
			h := hold(t, limit)
			for range 2 {
				same(t, h.each(l...), len(l), "Each")
				same(t, h.r.Used(), limit, "Used")
				for _, o := range about(k) {
					if !slices.Contains(l, o) {
						h.stays(func() { same(t, h.insert(o), api.ErrFull, "Insert", o) })
						h.stays(func() { same(t, h.fill(o, o), changed{0, api.ErrFull}, "Fill", o) })
					}
				}
				for _, o := range l {
					same(t, h.insert(o), api.ErrExists, "Insert, full", o)
				}
				h.whole()
				h.remove(l...)
				same(t, h.insert(^k), api.OK, "Insert", ^k)
				h.remove(^k)
			}
		}
	}
	h := filled(t, 3, []uint64{9})
	same(t, h.insert(9+65536), api.ErrFull, "Insert of another upper")
	same(t, h.insert(10), api.OK, "Insert of this upper")
}

// TestFull: whatever the limit is, just what is above it is refused, and when keys go there is room again.
func TestFull(t *testing.T) {
	for _, l := range [][]uint64{spread(0, 300, 1), far(100), spread(greatest-400, 280, 1), mixed(200, 2), spread(7, 200, 9000)} {
		for limit := 0; limit < 450; limit += 37 {
			h := hold(t, limit)
			for _, k := range l {
				h.insert(k)
			}
			h.all()
			for _, k := range l {
				h.delete(k)
				h.insert(l[0])
				h.insert(k)
			}
			h.all()
			h.min()
			h.max()
		}
	}
}

// TestFullChangesNothing, to the last one: one less is too few, and what is there already isn't kept out.
func TestFullChangesNothing(t *testing.T) {
	for _, l := range [][]uint64{spread(0, 60, 1), far(60), spread(7, 60, 1<<55), mixed(60, 4), reversed(spread(1<<60, 60, 30000))} {
		for _, n := range []int{1, 2, 30, 58, 59} {
			o := filled(t, api.MaxCap, l[:n])
			used := o.r.Used()
			same(t, o.insert(l[n]), api.OK, "Insert")
			all := o.r.Used()
			for limit := used; limit < all; limit++ {
				h := filled(t, limit, l[:n])
				h.stays(func() { same(t, h.insert(l[n]), api.ErrFull, "Insert", l[n], "limit", limit) })
				h.stays(func() { same(t, h.each(l[n], l[n]), 0, "Each", l[n], "limit", limit) })
				for _, k := range l[:n] {
					same(t, h.insert(k), api.ErrExists, "Insert", k, "limit", limit)
				}
				same(t, h.delete(l[n]), api.ErrNone, "Delete", l[n])
				h.asked(l[n])
				h.all()
			}
			h := filled(t, all, l[:n+1])
			same(t, h.r.Used(), all, "Used")
		}
	}
}

// TestInsertTakesLess: with one key more than 4096 a box is a bitmap, and uses less: so that isn't full.
func TestInsertTakesLess(t *testing.T) {
	keys := spread(1<<32, arrayMost+1, 3)
	h := hold(t, 4097)
	same(t, h.each(keys[:arrayMost]...), arrayMost, "Each")
	same(t, h.r.Used(), 4097, "Used of 4096")
	h.stays(func() { same(t, h.insert(1), api.ErrFull, "Insert of another upper") })
	same(t, h.insert(keys[arrayMost]), api.OK, "Insert of one more")
	same(t, h.r.Used(), 1025, "Used of 4097")
	same(t, h.insert(1), api.OK, "Insert of another upper")
	same(t, h.r.Used(), 1027, "Used of two boxes")
	h.stays(func() { same(t, h.delete(keys[0]), api.ErrFull, "Delete") })
	h.remove(1)
	same(t, h.delete(keys[0]), api.OK, "Delete")
	same(t, h.r.Used(), 4097, "Used of 4096 again")
	h.whole()
}

// TestDeleteTakesMore: of 4097 keys one less uses more, and where there is no room for that, the key stays; so does Insert of the 4096th, but not Fill of two.
func TestDeleteTakesMore(t *testing.T) {
	keys := spread(9, arrayMost+1, 1)
	h := hold(t, 4096)
	same(t, h.each(keys...), arrayMost-1, "Each till it's full")
	same(t, h.r.Used(), 4096, "Used of 4095")
	h.stays(func() { same(t, h.insert(keys[arrayMost-1]), api.ErrFull, "Insert of the 4096th") })
	h.stays(func() {
		same(t, h.fill(keys[0], keys[arrayMost-1]), changed{0, api.ErrFull}, "Fill up to the 4096th")
	})
	same(t, h.fill(keys[0], keys[arrayMost]), changed{2, api.OK}, "Fill up to the 4097th")
	same(t, h.r.Used(), 1025, "Used of 4097")
	for _, k := range []uint64{keys[0], keys[7], keys[arrayMost]} {
		h.stays(func() { same(t, h.delete(k), api.ErrFull, "Delete", k) })
		h.stays(func() { same(t, h.wipe(k, k), changed{0, api.ErrFull}, "Wipe", k) })
	}
	h.stays(func() { same(t, h.delete(5), api.ErrNone, "Delete of what isn't there") })
	same(t, h.wipe(keys[0], keys[1]), changed{2, api.OK}, "Wipe of two")
	same(t, h.r.Used(), 4096, "Used of 4095")
	same(t, h.delete(keys[2]), api.OK, "Delete")
	same(t, h.r.Used(), 4095, "Used of 4094")
	h.whole()
}

// TestDeleteOfRuns: a box whose keys are changed is plain then, and may use more than there is room for.
func TestDeleteOfRuns(t *testing.T) {
	h := hold(t, 9)
	same(t, h.each(spread(100, 8, 1)...), 8, "Each")
	same(t, h.optimise(), 1, "Optimise")
	same(t, h.r.Used(), 3, "Used as runs")
	same(t, h.each(1<<20, 1<<30, 1<<40), 3, "Each")
	same(t, h.r.Used(), 9, "Used")
	for _, k := range []uint64{100, 104, 107} {
		h.stays(func() { same(t, h.delete(k), api.ErrFull, "Delete", k) })
		h.stays(func() { same(t, h.wipe(k, k), changed{0, api.ErrFull}, "Wipe", k) })
		h.stays(func() { same(t, h.insert(k), api.ErrExists, "Insert", k) })
	}
	h.stays(func() { same(t, h.insert(108), api.ErrFull, "Insert") })
	h.stays(func() { same(t, h.delete(108), api.ErrNone, "Delete") })
	h.stays(func() { same(t, h.plain(), api.ErrFull, "Plain") })
	h.stays(func() { same(t, h.wipe(0, 104), changed{0, api.ErrFull}, "Wipe of five") })
	same(t, h.wipe(0, 105), changed{6, api.OK}, "Wipe of six")
	same(t, h.r.Used(), 9, "Used of two, and of three others")
	h.whole()
	same(t, h.delete(106), api.OK, "Delete")
	same(t, h.r.Used(), 8, "Used")
	h.remove(1<<30, 107, 1<<20, 1<<40)
	same(t, h.r.Used(), 0, "Used at last")
}

// TestGreatestLimit: 2^19 keys of an upper each, in whatever order they come and go.
func TestGreatestLimit(t *testing.T) {
	const n = api.MaxCap / 2
	r := newRoar(t, api.MaxCap)
	for i, l := range [][]uint64{spread(9, n, 65536), far(n), spread(greatest-(n-1)<<20, n, 1<<20)} {
		for j, order := range [][]uint64{l, reversed(l), shuffled(l, 3)} {
			if i != j && j != 2 {
				continue
			}
			same(t, r.Each(order...), n, "Each", i, j)
			same(t, r.Used(), api.MaxCap, "Used", i, j)
			same(t, r.Boxes(), n, "Boxes", i, j)
			same(t, r.Insert(l[0]^1), api.ErrFull, "Insert, full", i, j)
			same(t, r.Has(l[0]^1), false, "Has of what was refused", i, j)
			same(t, r.Insert(l[9]), api.ErrExists, "Insert, full", i, j)
			want := rising(l)
			list(t, slices.Collect(r.All()), want, "All", i, j)
			for a := 1; a < n; a += 997 {
				same(t, find(r.Next(want[a-1]+1)), found{want[a], true}, "Next", i, j, a)
				same(t, find(r.Prev(want[a]-1)), found{want[a-1], true}, "Prev", i, j, a)
				same(t, r.Rank(want[a]), a, "Rank", i, j, a)
				same(t, find(r.Select(a)), found{want[a], true}, "Select", i, j, a)
			}
			for _, k := range [][]uint64{shuffled(l, 4), l, reversed(l)}[j] {
				if r.Delete(k) != api.OK {
					t.Fatal("Delete", k)
				}
			}
			same(t, r.Used()+r.Len()+r.Boxes(), 0, "Used, Len, Boxes at last", i, j)
			list(t, slices.Collect(r.All()), nil, "All at last", i, j)
		}
	}
}

// TestManyBoxes: as boxes come and go, here and there, the others stay in order.
func TestManyBoxes(t *testing.T) {
	number := numbers(8)
	r := newRoar(t, api.MaxCap)
	keys := spread(5, 20000, 3<<16)
	r.Each(shuffled(keys, 2)...)
	for round := range 12 {
		from, n := number(len(keys)), 1+number(len(keys)/2)
		l := keys[from:min(len(keys), from+n)]
		if round%3 == 2 {
			same(t, change(r.Wipe(l[0], l[len(l)-1])), changed{len(l), api.OK}, "Wipe", round)
		} else {
			for _, k := range shuffled(l, uint64(round)) {
				same(t, r.Delete(k), api.OK, "Delete", k)
			}
		}
		left := slices.DeleteFunc(slices.Clone(keys), func(k uint64) bool { return k >= l[0] && k <= l[len(l)-1] })
		list(t, slices.Collect(r.All()), left, "All", round)
		same(t, r.Used(), 2*len(left), "Used", round)
		for i, k := range left {
			same(t, r.Rank(k), i, "Rank", round, i)
			same(t, find(r.Select(i)), found{k, true}, "Select", round, i)
			if i > 0 {
				same(t, find(r.Next(left[i-1]+1)), found{k, true}, "Next", round, i)
				same(t, find(r.Prev(k-1)), found{left[i-1], true}, "Prev", round, i)
			}
		}
		same(t, r.Each(shuffled(l, uint64(round)+50)...), len(l), "Each", round)
		list(t, slices.Collect(r.All()), keys, "All", round)
	}
}

func TestRankAndSelect(t *testing.T) {
	h := filled(t, api.MaxCap, []uint64{5, 9, 65535, 65536, 1 << 40, greatest})
	for k, want := range map[uint64]int{0: 0, 5: 0, 6: 1, 9: 1, 10: 2, 65535: 2, 65536: 3, 65537: 4, 1 << 39: 4, 1 << 40: 4, 1<<40 + 1: 5, greatest - 1: 5, greatest: 5} {
		same(t, h.r.Rank(k), want, "Rank", k)
	}
	for i, k := range []uint64{5, 9, 65535, 65536, 1 << 40, greatest} {
		same(t, find(h.r.Select(i)), found{k, true}, "Select", i)
	}
	for _, i := range []int{math.MinInt, -7, -1, 6, 7, 65536, 1 << 32, math.MaxInt} {
		same(t, find(h.r.Select(i)), found{}, "Select", i)
	}
	// Of bitmaps and of runs, too.
	same(t, h.fill(1<<40-10, 1<<40+99989), changed{99999, api.OK}, "Fill")
	for range 2 {
		for _, i := range []int{0, 9, 10, 11, 4096, 50000, 65545, 65546, 65547, 99999} {
			same(t, h.r.Rank(1<<40-10+uint64(i)), 4+i, "Rank", i)
			same(t, find(h.r.Select(4+i)), found{1<<40 - 10 + uint64(i), true}, "Select", i)
		}
		h.whole()
		h.optimise()
	}
}

func TestEach(t *testing.T) {
	h := hold(t, 9)
	same(t, h.each(), 0, "Each of none")
	same(t, h.each([]uint64{}...), 0, "Each of none")
	same(t, h.each(5), 1, "Each of one")
	same(t, h.each(5), 0, "Each of what is there")
	same(t, h.each(7, 5, 7, 4, 4, 5), 2, "Each of some twice")
	same(t, h.each(5, 1<<63, 1<<63, 9, 7), 2, "Each of some that are there")
	// What is full ends it: 3, which would have room, is behind.
	same(t, h.each(5, 6, 6, 1<<40, 3), 1, "Each till it's full")
	list(t, h.all(), []uint64{4, 5, 6, 7, 9, 1 << 63}, "All")
	same(t, h.each(5, 1<<40, 3), 0, "Each, full at once")
	same(t, h.each(3, 3, 8), 1, "Each of what has room")
	same(t, h.each(5, 7, 4, 1<<63), 0, "Each of what is there")
	h.remove(1<<63, 6)
	same(t, h.each(5, 1<<62, 1<<62, 9, 2, 1, 0), 2, "Each, with room again")
	h.whole()
}

func TestEachOfSamples(t *testing.T) {
	for _, l := range samples() {
		twice := append(slices.Clone(l), l...)
		for _, limit := range []int{0, 1, 2, 3, 4, 40, 133, 300, api.MaxCap} {
			h := hold(t, limit)
			h.each(shuffled(twice, 1)...)
			h.each(shuffled(twice, 9)...)
			h.all()
		}
		h := hold(t, api.MaxCap)
		same(t, h.each(twice...), len(l), "Each")
		h.whole()
	}
}

// TestHandedIn: what is handed in is neither changed nor kept, and its spare room isn't either.
func TestHandedIn(t *testing.T) {
	room := spread(1, 400, 7777)
	want := slices.Clone(room)
	h := hold(t, api.MaxCap)
	same(t, h.r.Each(room[:300]...), 300, "Each")
	list(t, room, want, "what was handed in")
	for i := range room {
		room[i] = 3
	}
	list(t, slices.Collect(h.r.All()), want[:300], "All")
	l := slices.Collect(h.r.All())
	clear(l[:cap(l)])
	list(t, slices.Collect(h.r.All()), want[:300], "All")
}

// stopped is what s tells to one who stops it behind n.
func stopped(s iter.Seq[uint64], n int) []uint64 {
	var l []uint64
	s(func(k uint64) bool {
		l = append(l, k)
		return len(l) < n
	})
	return l
}

func TestAll(t *testing.T) {
	for name, keys := range samples() {
		h := hold(t, api.MaxCap)
		all := h.r.All()
		list(t, slices.Collect(all), nil, "All of none")
		h.each(keys...)
		want := rising(keys)
		for range 2 {
			list(t, slices.Collect(all), want, "All, gone through again", name)
			list(t, slices.Collect(h.r.All()), want, "All", name)
			h.optimise()
		}
		for n := 1; n <= len(want); n++ {
			list(t, stopped(all, n), want[:n], "All, stopped", name)
		}
		for i, k := range want {
			h.delete(k)
			list(t, slices.Collect(all), want[i+1:], "All behind Delete", name)
		}
		h.each(keys...)
		list(t, slices.Collect(all), want, "All behind Each", name)
		h.clear()
		list(t, slices.Collect(all), nil, "All behind Clear", name)
		h.fill(1<<20-3, 1<<20+3)
		list(t, slices.Collect(all), spread(1<<20-3, 7, 1), "All behind Fill", name)
		h.wipe(1<<20-1, 1<<20+2)
		list(t, slices.Collect(all), []uint64{1<<20 - 3, 1<<20 - 2, 1<<20 + 3}, "All behind Wipe", name)
	}
}

func TestAllWithinItself(t *testing.T) {
	for _, l := range [][]uint64{spread(60, 9, 1), far(100), spread(65530, 12, 1)} {
		h := filled(t, api.MaxCap, l)
		want := rising(l)
		all := h.r.All()
		var got []uint64
		for k := range all {
			got = append(got, k)
			list(t, slices.Collect(all), want, "All within itself")
			list(t, stopped(all, 2), want[:2], "All within itself, stopped")
			h.asked(k)
			h.max()
		}
		list(t, got, want, "All")
	}
}

func TestClear(t *testing.T) {
	for _, l := range samples() {
		h := hold(t, 2*len(l)+2)
		h.clear()
		h.whole()
		for seed := range uint64(3) {
			same(t, h.each(shuffled(l, seed)...), len(l), "Each")
			if seed == 1 && len(l) > 1 {
				h.remove(l[:len(l)/2]...)
			}
			if seed == 2 {
				h.optimise()
			}
			h.clear()
			h.whole()
			for _, k := range l {
				h.asked(k)
				same(t, h.delete(k), api.ErrNone, "Delete", k)
			}
			h.clear()
			same(t, h.insert(77), api.OK, "Insert")
			h.whole()
			h.clear()
		}
		h.each(l...)
		h.whole()
	}
}

func TestRoarsStandApart(t *testing.T) {
	l := far(300)
	a, b := hold(t, 600), hold(t, 900)
	same(t, a.each(l...), 300, "Each")
	b.whole()
	same(t, b.each(l[100:250]...), 150, "Each")
	same(t, b.fill(7, 300).keys, 294, "Fill")
	a.remove(l[120:150]...)
	a.whole()
	b.whole()
	a.clear()
	b.whole()
	b.remove(l[200])
	same(t, tell(a.r.Meter) == tell(b.r.Meter), false, "meters")
	a.whole()
	b.whole()
}

// TestOtherWays: what is found hangs on the keys alone, not on how they came.
func TestOtherWays(t *testing.T) {
	l := append(mixed(300, 6), spread(1<<40, 200, 1)...)
	others := spread(0x2222, 290, 1<<20+16)
	a, b, c := hold(t, api.MaxCap), hold(t, api.MaxCap), hold(t, api.MaxCap)
	a.each(l...)
	b.each(others...)
	b.each(reversed(l)...)
	b.remove(others...)
	c.fill(1<<40-50, 1<<40+199)
	c.wipe(1<<40-50, 1<<40-1)
	c.each(l...)
	c.optimise()
	list(t, b.all(), a.all(), "All")
	list(t, c.all(), a.all(), "All")
	same(t, b.r.Used(), a.r.Used(), "Used")
	for _, k := range append(spread(0, 200, 0x0123_4567_89ab_cdef), l...) {
		for _, o := range []held{b, c} {
			same(t, find(a.r.Next(k)), find(o.r.Next(k)), "Next", k)
			same(t, find(a.r.Prev(k)), find(o.r.Prev(k)), "Prev", k)
			same(t, a.r.Has(k), o.r.Has(k), "Has", k)
			same(t, a.r.Rank(k), o.r.Rank(k), "Rank", k)
		}
	}
	same(t, c.plain(), api.OK, "Plain")
	same(t, c.r.Used(), a.r.Used(), "Used")
}

// TestAllOrders: in whatever orders keys come and go, nothing is left, and nothing used, and there is room again.
func TestAllOrders(t *testing.T) {
	for _, l := range [][]uint64{{0, 1, greatest}, {5, 4, 6, 7}, {0, 1 << 63, 1 << 62, greatest}, {65535, 65536, 65534, 131072}} {
		o := filled(t, api.MaxCap, l)
		orders(l, func(in []uint64) {
			orders(l, func(out []uint64) {
				// The limit is what they need: what stayed behind would be in the way.
				h := filled(t, o.r.Used(), in)
				for _, k := range out {
					same(t, h.delete(k), api.OK, "Delete", k, "of", out)
					same(t, h.delete(k), api.ErrNone, "Delete", k, "of", out)
					h.all()
					h.asked(k)
				}
				same(t, h.r.Len()+h.r.Used()+h.r.Boxes(), 0, "Len, Used, Boxes at last")
				same(t, h.each(in...), len(in), "Each", in)
			})
		})
	}
}

// TestOneUpper: all keys of one upper come and go one by one, over all ways to keep them.
func TestOneUpper(t *testing.T) {
	l := spread(3<<16, 1<<16, 1)
	r := newRoar(t, 4097)
	for i, k := range shuffled(l, 6) {
		same(t, r.Insert(k), api.OK, "Insert", k)
		if want := i + 2; i < arrayMost {
			same(t, r.Used(), want, "Used", i)
		} else {
			same(t, r.Used(), 1025, "Used", i)
		}
	}
	list(t, slices.Collect(r.All()), l, "All")
	same(t, r.Boxes(), 1, "Boxes")
	for i, k := range shuffled(l, 7) {
		same(t, r.Delete(k), api.OK, "Delete", k)
		same(t, r.Has(k), false, "Has", k)
		switch left := len(l) - i - 1; {
		case left > arrayMost:
			same(t, r.Used(), 1025, "Used", left)
		case left > 0:
			same(t, r.Used(), left+1, "Used", left)
		}
	}
	same(t, r.Used()+r.Len()+r.Boxes(), 0, "Used, Len, Boxes at last")
}

// P17.2

// TestFillWipeOrder: from above to; that goes ahead of what is full.
func TestFillWipeOrder(t *testing.T) {
	for _, limit := range []int{0, 5, api.MaxCap} {
		h := hold(t, limit)
		h.each(7, 70000)
		for _, r := range [][2]uint64{{1, 0}, {9, 8}, {65536, 65535}, {greatest, 0}, {greatest, greatest - 1}, {1 << 63, 5}, {1 << 40, 1<<40 - 1}} {
			h.stays(func() { same(t, h.fill(r[0], r[1]), changed{0, api.ErrOrder}, "Fill", r) })
			h.stays(func() { same(t, h.wipe(r[0], r[1]), changed{0, api.ErrOrder}, "Wipe", r) })
		}
	}
}

// TestFillWipeOfOne: from that is to.
func TestFillWipeOfOne(t *testing.T) {
	for _, k := range []uint64{0, 1, 65535, 65536, 1 << 32, 1 << 63, greatest - 65535, greatest - 1, greatest} {
		h := filled(t, 6, []uint64{0x1234 << 40})
		for range 2 {
			same(t, h.wipe(k, k), changed{0, api.OK}, "Wipe", k)
			same(t, h.fill(k, k), changed{1, api.OK}, "Fill", k)
			same(t, h.fill(k, k), changed{0, api.OK}, "Fill again", k)
			h.whole()
			same(t, h.r.Used(), 4, "Used")
			same(t, h.wipe(k, k), changed{1, api.OK}, "Wipe", k)
			same(t, h.r.Boxes(), 1, "Boxes")
			h.whole()
		}
	}
}

// TestFillWipeByHand: within one upper, over two, and over many; a range that is there already in part, and whole.
func TestFillWipeByHand(t *testing.T) {
	h := filled(t, api.MaxCap, []uint64{5, 65536, 10 << 16})
	for i, c := range []struct {
		fill     bool
		from, to uint64
		keys     int
		used     int
	}{
		{true, 65530, 65540, 10, 1 + 7 + 1 + 5 + 2},
		{true, 65530, 65540, 0, 1 + 7 + 1 + 5 + 2},
		{true, 65532, 65538, 0, 1 + 7 + 1 + 5 + 2},
		{true, 65529, 65541, 2, 1 + 8 + 1 + 6 + 2},
		{true, 5, 9, 4, 1 + 12 + 1 + 6 + 2},
		{false, 10, 65528, 0, 1 + 12 + 1 + 6 + 2},
		{false, 7, 65530, 5, 1 + 7 + 1 + 6 + 2},
		{true, 0, 4095, 4094, 1025 + 7 + 2},
		{true, 2 << 16, 5<<16 - 1, 3 << 16, 1025 + 7 + 3*1025 + 2},
		{false, 3<<16 + 4096, 3<<16 + 65535, 65536 - 4096, 1025 + 7 + 2*1025 + 4097 + 2},
		{false, 3<<16 - 1, 3 << 16, 2, 1025 + 7 + 2*1025 + 4096 + 2},
		{true, 3<<16 - 1, 3 << 16, 2, 1025 + 7 + 2*1025 + 4097 + 2},
		{true, 9<<16 + 65535, 11 << 16, 1 + 65535 + 1, 1025 + 7 + 2*1025 + 4097 + 2 + 1025 + 2},
		{true, 9<<16 + 65535, 11 << 16, 0, 1025 + 7 + 2*1025 + 4097 + 2 + 1025 + 2},
		{false, 2<<16 + 1, 11<<16 - 1, 65535 + 4096 + 65536 + 1 + 65536, 1025 + 7 + 2 + 2},
		{false, 12 << 16, greatest, 0, 1025 + 7 + 2 + 2},
		{false, 2 << 16, greatest, 2, 1025 + 7},
		{true, greatest - 2, greatest, 3, 1025 + 7 + 4},
		{false, 0, greatest, 4096 + 5 + 6 + 3, 0},
		{false, 0, greatest, 0, 0},
	} {
		f := h.wipe
		if c.fill {
			f = h.fill
		}
		same(t, f(c.from, c.to), changed{c.keys, api.OK}, "Fill or Wipe", i)
		same(t, h.r.Used(), c.used, "Used behind Fill or Wipe", i)
		h.whole()
	}
}

// TestFillWipeOfSamples: ranges about the keys and their uppers, that are there already in part, whole, or not at all.
func TestFillWipeOfSamples(t *testing.T) {
	for _, l := range samples() {
		var ends []uint64
		for i := 0; i < len(l); i += 1 + len(l)/3 {
			ends = append(ends, l[i], l[i]-2, l[i]+9, l[i]|65535)
		}
		ends = append(ends, 0, 65536, greatest)
		for i, from := range ends {
			for j, to := range ends {
				h := hold(t, 5000)
				h.each(l...)
				if (i+j)%2 == 0 {
					h.optimise()
				}
				told := h.fill(from, to)
				if told.keys > 0 {
					same(t, h.fill(from, to), changed{}, "Fill again", from, to)
				}
				h.asked(from)
				h.asked(to)
				h.wipe(from, to)
				h.asked(from)
				h.asked(to)
				same(t, h.wipe(from, to).keys, 0, "Wipe again", from, to)
			}
		}
	}
}

// TestManyUppers: whole uppers, to the last one that there is room for.
func TestManyUppers(t *testing.T) {
	const n = api.MaxCap / 1025
	r := newRoar(t, api.MaxCap)
	for _, from := range []uint64{0, 77 << 16, (1<<48 - n) << 16} {
		last := from + n<<16 - 1
		if last != greatest {
			same(t, change(r.Fill(from, last+1)), changed{0, api.ErrFull}, "Fill of one key more")
			same(t, change(r.Fill(from, last+65536)), changed{0, api.ErrFull}, "Fill of one upper more")
		}
		if from > 0 {
			same(t, change(r.Fill(from-1, last)), changed{0, api.ErrFull}, "Fill of one key more")
		}
		same(t, r.Len()+r.Used()+r.Boxes(), 0, "Len, Used, Boxes behind ErrFull")
		same(t, change(r.Fill(from, last)), changed{n << 16, api.OK}, "Fill")
		same(t, change(r.Fill(from, last)), changed{}, "Fill again")
		same(t, [3]int{r.Len(), r.Used(), r.Boxes()}, [3]int{n << 16, n * 1025, n}, "Len, Used, Boxes")
		same(t, find(r.Min()), found{from, true}, "Min")
		same(t, find(r.Max()), found{last, true}, "Max")
		same(t, find(r.Select(n<<15)), found{from + n<<15, true}, "Select")
		same(t, r.Rank(from+n<<15+5), n<<15+5, "Rank")
		same(t, r.Optimise(), n, "Optimise")
		same(t, r.Used(), 3*n, "Used as runs")
		same(t, change(r.Fill(from, last)), changed{}, "Fill again")
		same(t, r.Used(), 3*n, "Used behind Fill of what is there")
		same(t, change(r.Wipe(from+1, last-1)), changed{n<<16 - 2, api.OK}, "Wipe")
		same(t, [3]int{r.Len(), r.Used(), r.Boxes()}, [3]int{2, 4, 2}, "Len, Used, Boxes")
		list(t, slices.Collect(r.All()), []uint64{from, last}, "All")
		same(t, change(r.Wipe(0, greatest)), changed{2, api.OK}, "Wipe")
	}
}

// TestFillOfMoreThanThereIsRoomFor: however great the range is, whatever is there already, nothing changes.
func TestFillOfMoreThanThereIsRoomFor(t *testing.T) {
	for _, limit := range []int{0, 1, 2, 3, 1024, 2050, 5000, api.MaxCap} {
		h := hold(t, limit)
		h.each(far(400)...)
		for _, r := range [][2]uint64{{0, greatest}, {1, greatest - 1}, {1 << 63, greatest}, {0, 1 << 63}, {65536, 1 << 40}, {greatest - 1<<50, greatest}, {0, uint64(limit)<<16 + 1<<17}} {
			h.stays(func() { same(t, h.fill(r[0], r[1]), changed{0, api.ErrFull}, "Fill", r) })
		}
	}
}

// TestFillToTheLast: a range of as many uppers as there can be room for: whole ones that are there as runs, one that isn't, and a key at each end.
func TestFillToTheLast(t *testing.T) {
	for n := range uint64(8) {
		for _, place := range []uint64{0, n / 2, n} {
			need := int(3*n + 1025 + 2 + 2)
			for _, limit := range []int{need - 1, need} {
				h := hold(t, limit)
				first := uint64(1 << 30)
				for i := range n {
					u := first + i
					if i >= place {
						u++
					}
					same(t, h.fill(u<<16, u<<16|65535), changed{65536, api.OK}, "Fill")
					same(t, h.optimise(), 1, "Optimise")
				}
				from, to := first<<16-1, (first+n+1)<<16
				if limit < need {
					h.stays(func() { same(t, h.fill(from, to), changed{0, api.ErrFull}, "Fill", n) })
					continue
				}
				same(t, h.fill(from, to), changed{65538, api.OK}, "Fill", n)
				same(t, h.r.Used(), need, "Used", n)
				same(t, h.r.Boxes(), int(n+3), "Boxes", n)
				same(t, h.optimise(), 1, "Optimise", n)
			}
		}
	}
}

// TestFillOfWholeUppers, and of a key at each end, with room for that, and for one less.
func TestFillOfWholeUppers(t *testing.T) {
	for n := range 40 {
		need := 1025*n + 4
		from, to := uint64(7)<<16-1, uint64(7+n)<<16
		r := newRoar(t, need-1)
		same(t, change(r.Fill(from, to)), changed{0, api.ErrFull}, "Fill", n)
		same(t, r.Len()+r.Used()+r.Boxes(), 0, "Len, Used, Boxes", n)
		r = newRoar(t, need)
		same(t, change(r.Fill(from, to)), changed{n<<16 + 2, api.OK}, "Fill", n)
		same(t, [3]int{r.Len(), r.Used(), r.Boxes()}, [3]int{n<<16 + 2, need, n + 2}, "Len, Used, Boxes", n)
	}
}

// TestFillTakesLess: what is used counts behind all of the range, not on the way.
func TestFillTakesLess(t *testing.T) {
	h := hold(t, 4097)
	same(t, h.each(spread(65536, arrayMost, 2)...), arrayMost, "Each")
	h.stays(func() { same(t, h.fill(65535, 65536), changed{0, api.ErrFull}, "Fill of one more, in another upper") })
	// The second box uses 3072 less, as a bitmap: that is room for the first one.
	h.stays(func() { same(t, h.fill(65536-3072, 65537), changed{0, api.ErrFull}, "Fill of one too many") })
	same(t, h.fill(65536-3071, 65537), changed{3072, api.OK}, "Fill")
	same(t, h.r.Used(), 4097, "Used")
	h.stays(func() { same(t, h.wipe(65537, 65537), changed{0, api.ErrFull}, "Wipe of one") })
	h.stays(func() { same(t, h.wipe(65535, 65537), changed{0, api.ErrFull}, "Wipe of one in each") })
	h.stays(func() { same(t, h.delete(65537), api.ErrFull, "Delete") })
	// With what goes from the first one there is room for the second one.
	h.stays(func() { same(t, h.wipe(65536-3070, 65536), changed{0, api.ErrFull}, "Wipe of one too few") })
	same(t, h.wipe(0, 65536), changed{3072, api.OK}, "Wipe")
	same(t, h.r.Used(), 4097, "Used")
	h.whole()
}

// TestOptimise: of so many keys that it costs as much in another way, of one more, and of one less.
func TestOptimise(t *testing.T) {
	for i, c := range []struct {
		keys            []uint64
		plain, used     int
		otherwise       int
		longer, shorter uint64
	}{
		{nil, 0, 0, 0, 7, 7},
		{[]uint64{5}, 2, 2, 0, 6, 5},
		{spread(5, 2, 1), 3, 3, 0, 7, 5},
		{spread(5, 3, 1), 4, 3, 1, 8, 6},
		{[]uint64{5, 7, 8}, 4, 4, 0, 9, 5},
		{runs(9, 5, 2), 11, 11, 0, 8, 9},
		{append(runs(9, 5, 2), 100), 12, 12, 0, 101, 100},
		{append(runs(9, 5, 2), 8), 12, 11, 1, 7, 8},
		{runs(0, 2000, 2), 4001, 4001, 0, 60000, 0},
		{append(runs(0, 2000, 2), 5999), 4002, 4001, 1, 60000, 0},
		{spread(0, arrayMost, 1), 4097, 3, 1, 60000, 0},
		{spread(0, arrayMost+1, 1), 1025, 3, 1, 60000, 0},
		{spread(1<<40, 1<<16, 1), 1025, 3, 1, 60000, 1 << 40},
		{runs(1<<40, 511, 9), 1025, 1023, 1, 1<<40 + 60000, 1<<40 + 1},
		{runs(1<<40, 512, 9), 1025, 1025, 0, 1<<40 + 60000, 1 << 40},
		{runs(1<<40, 513, 9), 1025, 1025, 0, 1<<40 + 60000, 1 << 40},
		{append(runs(0, 5, 2), runs(1<<40, 5, 3)...), 11 + 16, 11 + 11, 1, 60000, 1 << 40},
		{append(runs(0, 5, 4), runs(1<<40, 5, 3)...), 21 + 16, 11 + 11, 2, 60000, 1 << 40},
		{append(spread(0, 70, 65536), runs(5<<50, 9, 3)...), 140 + 28, 140 + 19, 1, 60000, 5 << 50},
	} {
		h := hold(t, api.MaxCap)
		same(t, h.r.Each(c.keys...), len(c.keys), "Each", i)
		h.m.each(c.keys)
		for range 2 {
			same(t, h.r.Used(), c.plain, "Used, plain", i)
			same(t, h.optimise(), c.otherwise, "Optimise", i)
			same(t, h.r.Used(), c.used, "Used behind Optimise", i)
			same(t, h.optimise(), 0, "Optimise again", i)
			same(t, h.r.Used(), c.used, "Used behind Optimise", i)
			h.whole()
			same(t, h.plain(), api.OK, "Plain", i)
			same(t, h.r.Used(), c.plain, "Used behind Plain", i)
		}
		// Behind a change the box is plain; behind what changes nothing it is as it was.
		for _, f := range []func(){
			func() { h.insert(c.longer) }, func() { h.delete(c.longer) }, func() { h.fill(c.longer, c.longer) }, func() { h.wipe(c.longer, c.longer) },
			func() { h.delete(c.shorter) }, func() { h.insert(c.shorter) }, func() { h.wipe(c.shorter, c.shorter) }, func() { h.fill(c.shorter, c.shorter) },
			func() { h.insert(c.shorter) }, func() { h.fill(c.shorter, c.shorter) }, func() { h.delete(^c.shorter) }, func() { h.wipe(^c.shorter, ^c.shorter) },
		} {
			h.optimise()
			f()
			h.all()
		}
	}
}

// TestPlainAndOptimise: just the boxes that are kept otherwise then are counted.
func TestPlainAndOptimise(t *testing.T) {
	h := hold(t, api.MaxCap)
	same(t, h.each(append(runs(7, 9, 4), runs(1<<50, 5, 6)...)...), 66, "Each")
	same(t, h.optimise(), 2, "Optimise")
	same(t, h.insert(60000), api.OK, "Insert")
	same(t, h.optimise(), 1, "Optimise of one that was changed")
	same(t, h.plain(), api.OK, "Plain")
	same(t, h.plain(), api.OK, "Plain again")
	same(t, h.optimise(), 2, "Optimise behind Plain")
	h.wipe(0, 1<<40)
	same(t, h.optimise(), 0, "Optimise of the other one")
	h.whole()
}

// TestPlainFull: there must be room for all boxes, else none is changed.
func TestPlainFull(t *testing.T) {
	for limit, want := range map[int]api.Errno{1028: api.ErrFull, 1029: api.OK} {
		h := hold(t, limit)
		h.fill(65536, 131071)
		h.optimise()
		same(t, h.each(5, 6, 7), 3, "Each")
		same(t, h.plain(), want, "Plain", limit)
		same(t, h.r.Used() == limit, want == api.OK, "Used", limit)
		h.whole()
	}
	for _, limit := range []int{1025, 1026, 1027} {
		h := hold(t, limit)
		same(t, h.fill(65536, 131071), changed{65536, api.OK}, "Fill")
		same(t, h.plain(), api.OK, "Plain of what is plain")
		same(t, h.optimise(), 1, "Optimise")
		same(t, h.each(5, 6, 7), 3, "Each")
		same(t, h.optimise(), 1, "Optimise")
		same(t, h.r.Used(), 6, "Used as runs")
		for range 2 {
			h.stays(func() { same(t, h.plain(), api.ErrFull, "Plain", limit) })
			h.stays(func() { same(t, h.delete(65536), api.ErrFull, "Delete", limit) })
		}
		same(t, h.delete(6), api.OK, "Delete")
		h.plain()
		h.remove(5)
		same(t, h.plain() == api.OK, limit >= 1027, "Plain", limit)
		same(t, h.r.Used() == 1027, limit >= 1027, "Used", limit)
		h.optimise()
		same(t, h.delete(65536) == api.OK, limit >= 1027, "Delete", limit)
		h.remove(7)
		same(t, h.plain(), api.OK, "Plain", limit)
		same(t, h.r.Used(), 1025, "Used", limit)
		h.whole()
	}
}

// TestWipeAcrossRuns: parts of runs at both ends, whole boxes between.
func TestWipeAcrossRuns(t *testing.T) {
	for _, limit := range []int{5*1025 - 1, api.MaxCap} {
		h := hold(t, limit)
		same(t, h.fill(100, 5<<16-1).keys == 5<<16-100, limit == api.MaxCap, "Fill")
		same(t, h.fill(100, 3<<16-1).keys > 0, limit != api.MaxCap, "Fill of less")
		h.optimise()
		h.whole()
		h.wipe(65000, 2<<16+300)
		h.whole()
		h.wipe(50, 700)
		h.optimise()
		h.wipe(1<<16, 2<<16+301)
		h.whole()
		h.wipe(0, greatest)
		same(t, h.r.Used(), 0, "Used")
	}
}

// scripts

func TestScripts(t *testing.T) {
	for n, limit := range []int{0, 1, 2, 3, 10, 100, 700, 1100, 3000, 5200, api.MaxCap} {
		for k, keys := range [][]uint64{mixed(6, 1), mixed(260, 2), spread(250, 300, 1), append(far(400), 0, greatest), spread(65000, 250, 300), runs(1<<20-50, 30, 7)} {
			script(t, limit, keys, uint64(100*n+k), 1200)
		}
	}
}

// TestLongScripts: boxes grow to bitmaps, and there are many of them.
func TestLongScripts(t *testing.T) {
	for k, keys := range [][]uint64{far(700), append(spread(1<<40, 5000, 9), far(20)...), append(runs(1<<32-9000, 600, 14), mixed(60, 4)...)} {
		for _, limit := range []int{900, 4500, api.MaxCap} {
			script(t, limit, keys, uint64(k), 4000)
		}
	}
}

// script tells a Roar and a model the same things, and holds what each call answers, and what is told behind each.
func script(t *testing.T, limit int, keys []uint64, order uint64, calls int) {
	t.Helper()
	number := numbers(order)
	h := hold(t, limit)
	for i := range calls {
		k := keys[number(len(keys))]
		near := about(k)[number(67)]
		switch do(number, i/(calls/4)%2 == 0) {
		case 'i':
			h.insert(k)
		case 'd':
			h.delete(k)
		case 'e':
			from := number(len(keys))
			h.each(keys[from:min(len(keys), from+number(30))]...)
		case 'f':
			h.fill(k-uint64(number(40)), k+uint64(number(40)<<number(12)))
		case 'w':
			h.wipe(k-uint64(number(40)), k+uint64(number(40)<<number(12)))
		case 'n':
			h.wipe(min(k, near), max(k, near))
			h.fill(max(k, near), min(k, near))
		case 'o':
			h.optimise()
		case 'p':
			h.plain()
		case 'c':
			h.clear()
		case 'a':
			h.asked(k)
			h.asked(near)
		case 'm':
			h.min()
			h.max()
		}
		if i%200 == 0 {
			h.all()
		}
	}
	h.whole()
}

// do tells which call is next; whether there are more of insert or of delete makes sets grow and fall.
func do(number func(int) int, grow bool) rune {
	n := number(30)
	switch {
	case n == 0 && number(60) == 0:
		return 'c'
	case n < 2:
		return 'm'
	case n < 5:
		return 'a'
	case n == 5:
		return []rune("eopn")[number(4)]
	case n == 6 && number(2) == 0:
		return 'o'
	case n < 10:
		return []rune("wf")[number(2)]
	case n < 22 == grow:
		return 'i'
	}
	return 'd'
}

// P17.3

// TestSteps: in whatever Roar, no operation takes more than it may, and none of one with keys takes none.
func TestSteps(t *testing.T) {
	dense := append(spread(0, 70000, 1), spread(1<<30, 60000, 3)...)
	for name, l := range map[string][]uint64{"far apart": far(api.MaxCap / 2), "an upper each": spread(5, api.MaxCap/2, 65536), "many in a box": dense, "two": {5, 1 << 50}, "one": {7}} {
		r := newRoar(t, api.MaxCap)
		same(t, r.Each(l...), len(l), "Each", name)
		calls := map[string]struct {
			most int
			call func(k uint64)
		}{
			"Has":  {nearSteps, func(k uint64) { r.Has(k) }},
			"Next": {nearSteps, func(k uint64) { r.Next(k) }},
			"Prev": {nearSteps, func(k uint64) { r.Prev(k) }},
			"Min":  {endSteps, func(uint64) { r.Min() }},
			"Max":  {endSteps, func(uint64) { r.Max() }},
		}
		ask := append(spread(1<<29, 500, 1<<15), spread(7, 500, 0x7f4a_7c15_9e37_79b9)...)
		for i := 0; i < len(l); i += 1 + len(l)/5000 {
			ask = append(ask, l[i]-1, l[i], l[i]+1)
		}
		for what, c := range calls {
			for _, k := range ask {
				c.call(k)
				if n := r.Taken(); n < 1 || n > c.most {
					t.Fatalf("%s %s %d: %d steps", name, what, k, n)
				}
			}
		}
	}
}

// TestWhatIsCounted: each box that is asked is a step, and so is each upper that is looked at.
func TestWhatIsCounted(t *testing.T) {
	r := newRoar(t, api.MaxCap)
	r.Each(spread(5, 1000, 65536)...)
	reads := func(f func()) int {
		n := r.Reads()
		f()
		return r.Reads() - n
	}
	for _, k := range []uint64{5, 5 + 65536, 5 + 500<<16, 5 + 999<<16} {
		has := reads(func() { r.Has(k) })
		same(t, has > 8, true, "Reads of Has", k)
		same(t, reads(func() { r.Has(k + 1) }), has, "Reads of Has of what isn't there", k)
		same(t, reads(func() { r.Next(k) }), has, "Reads of Next, in one box", k)
		same(t, reads(func() { r.Prev(k) }), has, "Reads of Prev, in one box", k)
		same(t, reads(func() { r.Insert(k) }), has, "Reads of Insert", k)
		same(t, reads(func() { r.Delete(k + 1) }), has, "Reads of Delete", k)
		beside := 1
		if k == 5+999<<16 {
			beside = 0
		}
		same(t, reads(func() { r.Next(k + 1) }), has+beside, "Reads of Next, over two boxes", k)
		beside = 1
		if k == 5 {
			beside = 0
		}
		same(t, reads(func() { r.Prev(k - 1) }), has+beside, "Reads of Prev, over two boxes", k)
	}
	// An upper that has no box is looked for as the one behind it is, but there is no box to be asked.
	r.Delete(5 + 500<<16)
	for _, f := range []func(k uint64){func(k uint64) { r.Has(k) }, func(k uint64) { r.Insert(k) }} {
		there := reads(func() { f(5 + 501<<16) })
		same(t, reads(func() { f(9 + 500<<16) }), there-1, "Reads where there is no box")
		r.Delete(9 + 500<<16)
	}
	same(t, reads(func() { r.Min() }), 1, "Reads of Min")
	same(t, reads(func() { r.Max() }), 1, "Reads of Max")
	same(t, r.Calls(), 0, "Calls: there is no table")
}

// TestWhatTakesNoSteps: what begins no operation doesn't add to the one before, which may take no more.
func TestWhatTakesNoSteps(t *testing.T) {
	r := newRoar(t, api.MaxCap)
	r.Each(far(300)...)
	r.Fill(7, 200)
	for i, f := range []func(){
		func() { r.Len() }, func() { r.Used() }, func() { r.Limit() }, func() { r.Boxes() }, func() { r.Rank(1 << 60) }, func() { r.Select(70) },
		func() { r.All() }, func() { stopped(r.All(), 9) }, func() { stopped(r.All(), 9999) }, func() { r.Each() },
		func() { r.Fill(9, 90000) }, func() { r.Fill(0, greatest) }, func() { r.Wipe(100, 80000) }, func() { r.Wipe(1<<62, greatest) }, func() { r.Fill(9, 8) }, func() { r.Wipe(9, 8) },
		func() { r.Optimise() }, func() { r.Plain() }, func() { r.Clear() }, func() { r.Fill(7, 70) }, func() { r.Wipe(0, greatest) },
	} {
		r.Has(3)
		told := tell(r.Meter)
		f()
		same(t, tell(r.Meter), told, "steps behind", i)
	}
}

func TestWhatBeginsAnOperation(t *testing.T) {
	r := newRoar(t, 2+100)
	for range 2 {
		starts := r.Starts()
		for i, f := range []func(){
			func() { r.Insert(5) }, func() { r.Insert(5) }, func() { r.Delete(6) }, func() { r.Delete(5) }, func() { r.Has(5) },
			func() { r.Next(5) }, func() { r.Prev(5) }, func() { r.Min() }, func() { r.Max() },
			func() { r.Insert(7) }, func() { r.Next(7) }, func() { r.Prev(8) }, func() { r.Has(7) }, func() { r.Min() }, func() { r.Max() },
			func() { r.Next(8) }, func() { r.Prev(6) }, func() { r.Next(1 << 40) }, func() { r.Prev(1 << 40) },
		} {
			f()
			same(t, r.Starts(), starts+i+1, "Starts behind", i)
		}
		starts = r.Starts()
		same(t, r.Each(spread(100, 103, 1)...), 100, "Each")
		same(t, r.Starts(), starts+101, "Starts behind Each")
		same(t, r.Optimise(), 1, "Optimise")
		same(t, r.Plain(), api.OK, "Plain")
		starts = r.Starts()
		for _, k := range []uint64{100, 120, 100} {
			r.Delete(k)
		}
		same(t, r.Starts(), starts+3, "Starts behind Delete")
		r.Clear()
		same(t, r.Starts(), starts+3, "Starts behind Clear")
	}
}

func TestMeter(t *testing.T) {
	r := newRoar(t, 400)
	own := r.Meter
	same(t, own != nil, true, "a meter")
	r.Each(5, 6, 7<<20)
	r.Has(6)
	same(t, tell(own), steps{r.Taken(), r.Reads(), r.Calls(), r.Peak(), r.Starts()}, "its methods")
	same(t, r.Starts(), 4, "Starts")
	reads, calls, peak := r.Reads(), r.Calls(), r.Peak()
	r.Start()
	same(t, tell(own), steps{0, reads, calls, peak, 5}, "steps behind Start")
	r.Read()
	r.Call()
	r.Call()
	same(t, tell(own), steps{3, reads + 1, calls + 2, max(peak, 3), 5}, "steps behind Read, Call, Call")
	r.Min()
	taken := r.Taken()
	same(t, count.Sum(own), reads+calls+3+taken, "Sum")
	same(t, count.Worst(own), r.Peak(), "Worst")
	told := tell(own)
	r.Clear()
	same(t, tell(own), told, "steps behind Clear")
	same(t, r.Meter, own, "the meter")
	r.Min()
	same(t, own.Starts(), 7, "Starts behind Clear and Min")
	same(t, tell(newRoar(t, 40).Meter), steps{}, "steps of another")
}

func TestBoxesAreLayer9s(t *testing.T) {
	same(t, box.Most, arrayMost, "Most")
	b := box.New()
	b.Fill(0, arrayMost)
	same(t, b.Cost(), bitmapCost, "Cost of a bitmap")
}

func TestNil(t *testing.T) {
	var r *roar.Roar
	all := r.All()
	for range 2 {
		for _, k := range append(about(0), about(greatest)...) {
			same(t, r.Insert(k), api.ErrNone, "nil Insert", k)
			same(t, r.Delete(k), api.ErrNone, "nil Delete", k)
			same(t, r.Has(k), false, "nil Has", k)
			same(t, find(r.Next(k)), found{}, "nil Next", k)
			same(t, find(r.Prev(k)), found{}, "nil Prev", k)
			same(t, r.Each(k, k, 5), 0, "nil Each", k)
			same(t, r.Rank(k), 0, "nil Rank", k)
			same(t, find(r.Select(int(k))), found{}, "nil Select", k)
			same(t, change(r.Fill(k, k)), changed{0, api.ErrNone}, "nil Fill", k)
			same(t, change(r.Fill(k, ^k)), changed{0, api.ErrNone}, "nil Fill", k)
			same(t, change(r.Fill(^k, k)), changed{0, api.ErrNone}, "nil Fill", k)
			same(t, change(r.Wipe(k, k)), changed{0, api.ErrNone}, "nil Wipe", k)
			same(t, change(r.Wipe(k, ^k)), changed{0, api.ErrNone}, "nil Wipe", k)
			same(t, change(r.Wipe(^k, k)), changed{0, api.ErrNone}, "nil Wipe", k)
		}
		same(t, find(r.Min()), found{}, "nil Min")
		same(t, find(r.Max()), found{}, "nil Max")
		same(t, r.Optimise(), 0, "nil Optimise")
		same(t, r.Plain(), api.ErrNone, "nil Plain")
		same(t, r.Len()+r.Used()+r.Limit()+r.Boxes()+r.Each(), 0, "nil Len, Used, Limit, Boxes, Each")
		list(t, slices.Collect(r.All()), nil, "nil All")
		list(t, slices.Collect(all), nil, "nil All, gone through again")
		r.Clear()
	}
}
