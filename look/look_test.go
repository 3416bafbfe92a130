package look_test

import (
	"math"
	"slices"
	"testing"

	"stepstone/api"
	"stepstone/dict"
	"stepstone/face"
	"stepstone/look"
	"stepstone/roar"
)

// P24.1

func TestKeep(t *testing.T) {
	same(t, look.Keep(nil), nil, "Keep of nil")
	for _, keys := range samples() {
		for _, tag := range tags() {
			s := newSet(t, tag, 3, api.MaxCap, keys...)
			x := look.Keep(s)
			has(t, x, keys, 0, "Keep", tag)
			same(t, x.Set == s, true, "its Set", tag)
		}
	}
}

func TestVersionByHand(t *testing.T) {
	for _, tag := range tags() {
		x := kept(t, tag)
		same(t, x.Delete(5), api.ErrNone, "Delete of what isn't there", tag)
		x.Clear()
		same(t, counts(x.Wipe(0, greatest)), counted{0, api.OK}, "Wipe of nothing", tag)
		has(t, x, nil, 0, "nothing was changed", tag)
		same(t, x.Insert(5), api.OK, "Insert", tag)
		has(t, x, []uint64{5}, 1, "Insert", tag)
		same(t, x.Insert(5), api.ErrExists, "Insert of what is there", tag)
		has(t, x, []uint64{5}, 1, "Insert of what is there", tag)
		same(t, x.Insert(9), api.OK, "Insert", tag)
		same(t, x.Insert(0), api.OK, "Insert", tag)
		same(t, x.Insert(greatest), api.OK, "Insert", tag)
		has(t, x, []uint64{0, 5, 9, greatest}, 4, "Insert", tag)
		same(t, x.Delete(9), api.OK, "Delete", tag)
		has(t, x, []uint64{0, 5, greatest}, 5, "Delete", tag)
		same(t, x.Delete(9), api.ErrNone, "Delete of what isn't there", tag)
		has(t, x, []uint64{0, 5, greatest}, 5, "Delete of what isn't there", tag)
		same(t, counts(x.Wipe(6, greatest-1)), counted{0, api.OK}, "Wipe of nothing", tag)
		same(t, counts(x.Wipe(5, 4)), counted{0, api.ErrOrder}, "Wipe from above to", tag)
		same(t, counts(x.Wipe(greatest, 0)), counted{0, api.ErrOrder}, "Wipe from above to", tag)
		has(t, x, []uint64{0, 5, greatest}, 5, "Wipe of nothing", tag)
		same(t, counts(x.Wipe(0, 5)), counted{2, api.OK}, "Wipe", tag)
		has(t, x, []uint64{greatest}, 6, "Wipe of two keys is one change", tag)
		same(t, x.Insert(7), api.OK, "Insert", tag)
		x.Clear()
		has(t, x, nil, 8, "Clear", tag)
		x.Clear()
		has(t, x, nil, 8, "Clear of nothing", tag)
		same(t, x.Used(), 0, "Used behind Clear", tag)
		same(t, x.Insert(7), api.OK, "Insert behind Clear", tag)
		has(t, x, []uint64{7}, 9, "Insert behind Clear", tag)
	}
}

// TestAskingChangesNoVersion, and makes no cursor stale.
func TestAskingChangesNoVersion(t *testing.T) {
	for _, keys := range samples() {
		for _, tag := range tags() {
			x := kept(t, tag, keys...)
			c := open(t, x, 0, greatest)
			for _, k := range asked(keys) {
				x.Has(k)
				x.Next(k)
				x.Prev(k)
				face.Rank(x.Set, k)
			}
			x.Min()
			x.Max()
			x.Len()
			x.Used()
			x.Limit()
			x.Taken()
			x.Swap(nil)
			open(t, x, 3, 9)
			o, e := x.Open(9, 3)
			same(t, o, nil, "Open from above to", tag)
			same(t, e, api.ErrOrder, "Open from above to", tag)
			has(t, x, keys, 0, "behind asking", tag)
			list(t, rest(c, -1), keys, "Rest", tag)
		}
	}
}

// TestFull: what doesn't fit changes no version.
func TestFull(t *testing.T) {
	for tag, limit := range map[int]int{1: 3, 2: 72, 3: 70, 4: 11, 5: 4} {
		x := look.Keep(newSet(t, tag, 3, limit, 1, 2, 3))
		c := open(t, x, 0, greatest)
		same(t, x.Insert(1<<40), map[bool]api.Errno{true: api.OK, false: api.ErrFull}[tag == 1], "Insert", tag)
		if tag == 1 {
			has(t, x, []uint64{1, 2, 3, 1 << 40}, 1, "Insert of what takes no node more")
			same(t, x.Insert(1<<41), api.ErrFull, "Insert", tag)
			same(t, x.Version(), 1, "Version", tag)
			continue
		}
		has(t, x, []uint64{1, 2, 3}, 0, "Insert of what doesn't fit", tag)
		same(t, x.Insert(2), api.ErrExists, "Insert of what is there", tag)
		list(t, rest(c, -1), []uint64{1, 2, 3}, "Rest", tag)
	}
}

// TestDeleteAndWipeMayBeFull, of tag 5 alone: then the version stays.
func TestDeleteAndWipeMayBeFull(t *testing.T) {
	s := newSet(t, api.Roar, 0, 100, spread(0, 31, 1)...)
	r, ok := s.(*roar.Roar)
	same(t, ok, true, "it is kept as layer 17 does")
	r.Optimise()
	for _, k := range spread(65536, 94, 1) {
		same(t, s.Insert(k), api.OK, "Insert")
	}
	x := look.Keep(s)
	keys := slices.Concat(spread(0, 31, 1), spread(65536, 94, 1))
	c := open(t, x, 0, greatest)
	same(t, x.Delete(5), api.ErrFull, "Delete")
	same(t, counts(x.Wipe(5, 9)), counted{0, api.ErrFull}, "Wipe")
	same(t, counts(x.Wipe(9, 5)), counted{0, api.ErrOrder}, "Wipe from above to")
	same(t, counts(x.Wipe(31, 65535)), counted{0, api.OK}, "Wipe of nothing")
	has(t, x, keys, 0, "behind what is full")
	list(t, rest(c, -1), keys, "Rest")
	same(t, counts(x.Wipe(0, 65540)), counted{36, api.OK}, "Wipe")
	has(t, x, keys[36:], 1, "Wipe")
	stale(t, c, "behind Wipe")
}

func TestWipe(t *testing.T) {
	for _, keys := range samples() {
		for _, tag := range tags() {
			for _, from := range asked(keys) {
				for _, to := range []uint64{from, from + 1, from + 7, from | 1<<33, greatest} {
					x := kept(t, tag, keys...)
					gone := between(keys, from, to)
					if from > to {
						same(t, counts(x.Wipe(from, to)), counted{0, api.ErrOrder}, "Wipe", tag, from, to)
						has(t, x, keys, 0, "Wipe", tag, from, to)
						continue
					}
					left := slices.DeleteFunc(slices.Clone(keys), func(k uint64) bool { return from <= k && k <= to })
					same(t, counts(x.Wipe(from, to)), counted{len(gone), api.OK}, "Wipe", tag, from, to)
					has(t, x, left, uint64(min(1, len(gone))), "Wipe", tag, from, to)
				}
			}
		}
	}
}

// TestSetsMethods: what isn't a kept set's own is as the Set's that was told the same, its steps too.
func TestSetsMethods(t *testing.T) {
	for _, keys := range samples() {
		for _, tag := range tags() {
			x, s := look.Keep(newSet(t, tag, 5, 3000)), newSet(t, tag, 5, 3000)
			for _, k := range keys {
				same(t, x.Insert(k), s.Insert(k), "Insert", tag)
				same(t, x.Used(), s.Used(), "Used", tag)
				same(t, x.Taken(), s.Taken(), "Taken of Insert", tag)
			}
			same(t, x.Limit(), 3000, "Limit", tag)
			for _, k := range asked(keys) {
				same(t, x.Has(k), s.Has(k), "Has", tag)
				same(t, x.Taken(), s.Taken(), "Taken of Has", tag)
				same(t, find(x.Next(k)), find(s.Next(k)), "Next", tag)
				same(t, x.Taken(), s.Taken(), "Taken of Next", tag)
				same(t, find(x.Prev(k)), find(s.Prev(k)), "Prev", tag)
				same(t, x.Taken(), s.Taken(), "Taken of Prev", tag)
			}
			same(t, find(x.Min()), find(s.Min()), "Min", tag)
			same(t, find(x.Max()), find(s.Max()), "Max", tag)
			list(t, slices.Collect(x.All()), slices.Collect(s.All()), "All", tag)
			for _, k := range keys {
				same(t, x.Delete(k), s.Delete(k), "Delete", tag)
				same(t, x.Used(), s.Used(), "Used", tag)
			}
		}
	}
}

// TestSwap for all pairs of lists, kept in all ways.
func TestSwap(t *testing.T) {
	for i, keys := range samples() {
		for j, other := range samples() {
			from, tag := 1+(i+j)%5, 1+(i*3+j*2+i*j)%5
			x := kept(t, from, keys...)
			s := newSet(t, tag, uint64(i), 5000, other...)
			want := uint64(1)
			if slices.Equal(keys, other) {
				want = 0
			}
			x.Swap(s)
			has(t, x, other, want, "Swap", from, tag)
			same(t, x.Limit(), 5000, "Limit behind Swap", from, tag)
			same(t, x.Used(), s.Used(), "Used behind Swap", from, tag)
			x.Swap(nil)
			has(t, x, other, want, "Swap for nil", from, tag)
			x.Swap(newSet(t, from, 3, api.MaxCap, keys...))
			has(t, x, keys, 2*want, "Swap back", from, tag)
		}
	}
}

// TestSwapForTheSameKeys, kept otherwise: the version stays, and so do cursors where they are.
func TestSwapForTheSameKeys(t *testing.T) {
	for _, keys := range samples() {
		for _, tag := range tags() {
			x := kept(t, tag, keys...)
			c, r := open(t, x, 0, greatest), row{keys: keys}
			for n, other := range []int{5, 4, 3, 2, 1, tag} {
				s := newSet(t, other, 8, 4000+n, keys...)
				x.Swap(s)
				has(t, x, keys, 0, "Swap", tag, other)
				same(t, x.Limit(), 4000+n, "Limit", tag, other)
				same(t, x.Used(), s.Used(), "Used", tag, other)
				same(t, c.Stale(), false, "Stale", tag, other)
				for range 3 {
					same(t, tell(c.Next()), r.next(), "Next behind Swap", tag, other)
				}
				same(t, tell(c.Prev()), r.prev(), "Prev behind Swap", tag, other)
			}
		}
	}
}

// TestSwapChanges: what is told behind it is told of the new Set, which is changed then.
func TestSwapChanges(t *testing.T) {
	for _, tag := range tags() {
		was, s := newSet(t, tag, 3, api.MaxCap, 5, 9), newSet(t, 1+tag%5, 3, 1000, 1, 5)
		x := look.Keep(was)
		x.Swap(s)
		has(t, x, []uint64{1, 5}, 1, "Swap", tag)
		same(t, x.Has(9), false, "Has", tag)
		same(t, x.Has(1), true, "Has", tag)
		same(t, x.Taken(), s.Taken(), "Taken", tag)
		same(t, find(x.Next(2)), found{5, true}, "Next", tag)
		same(t, find(x.Prev(4)), found{1, true}, "Prev", tag)
		same(t, find(x.Min()), found{1, true}, "Min", tag)
		same(t, find(x.Max()), found{5, true}, "Max", tag)
		same(t, x.Insert(7), api.OK, "Insert", tag)
		same(t, x.Delete(1), api.OK, "Delete", tag)
		has(t, x, []uint64{5, 7}, 3, "behind Swap", tag)
		list(t, slices.Collect(s.All()), []uint64{5, 7}, "the Set that it was swapped for", tag)
		list(t, slices.Collect(was.All()), []uint64{5, 9}, "the Set that it was", tag)
		x.Swap(s)
		has(t, x, []uint64{5, 7}, 3, "Swap for its own Set", tag)
		same(t, counts(x.Wipe(6, 9)), counted{1, api.OK}, "Wipe", tag)
		x.Swap(was)
		has(t, x, []uint64{5, 9}, 5, "Swap back", tag)
		x.Clear()
		has(t, x, nil, 6, "Clear", tag)
		x.Swap(newSet(t, 1+(tag+2)%5, 3, 0))
		has(t, x, nil, 6, "Swap of none for none", tag)
		same(t, x.Insert(5), api.ErrFull, "Insert behind Swap for one of no room", tag)
		has(t, x, nil, 6, "Insert behind Swap for one of no room", tag)
	}
}

// TestSwapForItself: a kept set that is handed in ends, too, and nothing happens if it is the same one.
func TestSwapForItself(t *testing.T) {
	for _, tag := range tags() {
		x := kept(t, tag, 5, 9)
		c := open(t, x, 0, greatest)
		x.Swap(x)
		has(t, x, []uint64{5, 9}, 0, "Swap for itself", tag)
		y := look.Keep(x)
		x.Swap(y)
		x.Swap(look.Keep(y))
		has(t, x, []uint64{5, 9}, 0, "Swap for one that has it", tag)
		x.Swap((*look.Kept)(nil))
		has(t, x, []uint64{5, 9}, 0, "Swap for a kept set that is nil", tag)
		list(t, rest(c, -1), []uint64{5, 9}, "Rest", tag)
		o := kept(t, tag, 1)
		x.Swap(o)
		has(t, x, []uint64{1}, 1, "Swap for another kept set", tag)
		stale(t, c, "behind Swap", tag)
		same(t, x.Insert(4), api.OK, "Insert", tag)
		has(t, o, []uint64{1, 4}, 1, "the other kept set", tag)
		has(t, x, []uint64{1, 4}, 2, "Insert", tag)
		o.Swap(x)
		has(t, o, []uint64{1, 4}, 1, "Swap for one that has it", tag)
		same(t, y.Insert(3), api.OK, "Insert", tag)
		has(t, y, []uint64{1, 3, 4}, 1, "Insert", tag)
		has(t, x, []uint64{1, 3, 4}, 3, "Insert of the one that has it", tag)
	}
	same(t, look.Keep((*look.Kept)(nil)), nil, "Keep of a kept set that is nil")
}

// TestMaps: a map can be kept, too, and its values are changed with its keys.
func TestMaps(t *testing.T) {
	for _, tag := range tags() {
		m, e := dict.New(tag, 3, 1000)
		same(t, e, api.OK, "layer 23's New", tag)
		m.Load(api.Pair{Key: 5, Value: 7}, api.Pair{Key: 9, Value: 1})
		x := look.Keep(m)
		c := open(t, x, 2, 9)
		same(t, tell(c.Next()), told{5, api.OK}, "Next", tag)
		same(t, m.Put(5, 8), api.OK, "Put of another value", tag)
		same(t, tell(c.Next()), told{9, api.OK}, "Next", tag)
		same(t, x.Version(), 0, "Version", tag)
		same(t, x.Insert(7), api.OK, "Insert", tag)
		stale(t, c, "behind Insert", tag)
		v, ok := m.Get(7)
		same(t, find(v, ok), found{0, true}, "Get of what was inserted", tag)
		same(t, x.Insert(5), api.ErrExists, "Insert of what is there", tag)
		same(t, counts(x.Wipe(6, 8)), counted{1, api.OK}, "Wipe", tag)
		same(t, x.Delete(5), api.OK, "Delete", tag)
		has(t, x, []uint64{9}, 3, "Delete", tag)
		v, ok = m.Get(5)
		same(t, find(v, ok), found{}, "Get of what was deleted", tag)
		x.Clear()
		has(t, x, nil, 4, "Clear", tag)
		v, ok = m.Get(9)
		same(t, find(v, ok), found{}, "Get behind Clear", tag)
	}
}

// P24.2

// TestExample: 1, 5, 9; Open(2, 9): Next 5, Next 9, Next ErrEnd, Prev 9; Insert 7: Next ErrStale.
func TestExample(t *testing.T) {
	for _, tag := range tags() {
		x := kept(t, tag, 1, 5, 9)
		c := open(t, x, 2, 9)
		same(t, tell(c.Next()), told{5, api.OK}, "Next", tag)
		same(t, tell(c.Next()), told{9, api.OK}, "Next", tag)
		same(t, tell(c.Next()), told{0, api.ErrEnd}, "Next", tag)
		same(t, tell(c.Prev()), told{9, api.OK}, "Prev", tag)
		same(t, x.Insert(7), api.OK, "Insert", tag)
		same(t, tell(c.Next()), told{0, api.ErrStale}, "Next", tag)
	}
}

func TestOpenFromAboveTo(t *testing.T) {
	for _, tag := range tags() {
		x := kept(t, tag, 1, 5, 9)
		for _, r := range [][2]uint64{{1, 0}, {9, 5}, {5, 4}, {greatest, 0}, {greatest, greatest - 1}} {
			c, e := x.Open(r[0], r[1])
			same(t, e, api.ErrOrder, "Open", tag, r)
			same(t, c, nil, "Open", tag, r)
		}
	}
}

// ranges are such over the keys: all, some, one, none.
func ranges(keys []uint64) [][2]uint64 {
	l := asked(keys)
	r := [][2]uint64{{0, greatest}, {0, 0}, {greatest, greatest}, {1, greatest - 1}}
	for i, from := range l {
		for _, j := range []int{i, i + 1, i + 2, (i + len(l)) / 2, len(l) - 1} {
			r = append(r, [2]uint64{from, l[min(j, len(l)-1)]})
		}
	}
	return r
}

// walks holds a cursor against the plain one: to the end and on, to the beginning and on, and back and forth in turns.
func walks(t *testing.T, c *look.Cursor, r *row, about ...any) {
	t.Helper()
	next := func() {
		t.Helper()
		same(t, tell(c.Next()), r.next(), "Next", about...)
	}
	prev := func() {
		t.Helper()
		same(t, tell(c.Prev()), r.prev(), "Prev", about...)
	}
	prev()
	for range len(r.keys) + 3 {
		next()
	}
	for range len(r.keys) + 3 {
		prev()
	}
	for i := range len(r.keys) + 2 {
		next()
		prev()
		next()
		prev()
		prev()
		next()
		if i > 0 {
			next()
		}
	}
	for range len(r.keys) + 2 {
		prev()
		next()
		prev()
	}
	same(t, c.Stale(), false, "Stale", about...)
}

func TestWalks(t *testing.T) {
	for _, keys := range samples() {
		for _, tag := range tags() {
			x := kept(t, tag, keys...)
			for _, w := range ranges(keys) {
				c, r := open(t, x, w[0], w[1]), &row{keys: between(keys, w[0], w[1])}
				walks(t, c, r, tag, w)
				walks(t, c, r, tag, w)
			}
			has(t, x, keys, 0, "behind walks", tag)
		}
	}
}

func TestSeekByHand(t *testing.T) {
	for _, tag := range tags() {
		x := kept(t, tag, 1, 5, 9, 12, 20)
		c := open(t, x, 2, 15)
		same(t, tell(c.Seek(6)), told{9, api.OK}, "Seek between two", tag)
		same(t, tell(c.Prev()), told{5, api.OK}, "Prev behind Seek", tag)
		same(t, tell(c.Prev()), told{0, api.ErrEnd}, "Prev: 1 isn't in the range", tag)
		same(t, tell(c.Seek(9)), told{9, api.OK}, "Seek of a key", tag)
		same(t, tell(c.Next()), told{9, api.OK}, "Next tells it again", tag)
		same(t, tell(c.Next()), told{12, api.OK}, "Next", tag)
		same(t, tell(c.Next()), told{0, api.ErrEnd}, "Next: 20 isn't in the range", tag)
		same(t, tell(c.Seek(0)), told{5, api.OK}, "Seek below the range", tag)
		same(t, tell(c.Prev()), told{0, api.ErrEnd}, "Prev behind that", tag)
		same(t, tell(c.Next()), told{5, api.OK}, "Next behind that", tag)
		for _, k := range []uint64{13, 15, 16, 20, 21, greatest} {
			same(t, tell(c.Seek(k)), told{0, api.ErrEnd}, "Seek behind the last one", tag, k)
			same(t, tell(c.Next()), told{0, api.ErrEnd}, "Next behind that", tag, k)
			same(t, tell(c.Prev()), told{12, api.OK}, "Prev behind that", tag, k)
			same(t, tell(c.Prev()), told{9, api.OK}, "Prev behind that", tag, k)
		}
		same(t, tell(c.Seek(12)), told{12, api.OK}, "Seek of the last one", tag)
		same(t, tell(c.Seek(3)), told{5, api.OK}, "Seek back", tag)
	}
}

func TestSeek(t *testing.T) {
	for _, keys := range samples() {
		for _, tag := range tags() {
			x := kept(t, tag, keys...)
			for n, w := range ranges(keys) {
				c, r := open(t, x, w[0], w[1]), &row{keys: between(keys, w[0], w[1])}
				for i, k := range asked(keys) {
					same(t, tell(c.Seek(k)), r.seek(k), "Seek", tag, w, k)
					for j := range 3 {
						if (n+i+j)%3 > 0 {
							same(t, tell(c.Next()), r.next(), "Next behind Seek", tag, w, k)
						} else {
							same(t, tell(c.Prev()), r.prev(), "Prev behind Seek", tag, w, k)
						}
					}
				}
				walks(t, c, r, tag, w)
			}
		}
	}
}

// TestEndStays: at the ends a cursor doesn't move.
func TestEndStays(t *testing.T) {
	for _, tag := range tags() {
		x := kept(t, tag, 0, 5, greatest)
		c := open(t, x, 0, greatest)
		for range 3 {
			same(t, tell(c.Prev()), told{0, api.ErrEnd}, "Prev ahead of all", tag)
		}
		for _, k := range []uint64{0, 5, greatest} {
			same(t, tell(c.Next()), told{k, api.OK}, "Next", tag)
		}
		for range 3 {
			same(t, tell(c.Next()), told{0, api.ErrEnd}, "Next behind all", tag)
		}
		for _, k := range []uint64{greatest, 5, 0} {
			same(t, tell(c.Prev()), told{k, api.OK}, "Prev", tag)
		}
		same(t, tell(c.Prev()), told{0, api.ErrEnd}, "Prev ahead of all", tag)
		same(t, tell(c.Next()), told{0, api.OK}, "Next: key 0 isn't the end", tag)
	}
}

// TestSeveralCursors: none moves another one.
func TestSeveralCursors(t *testing.T) {
	for _, keys := range samples() {
		for _, tag := range tags() {
			x := kept(t, tag, keys...)
			var cursors []*look.Cursor
			var rows []*row
			for _, w := range ranges(keys) {
				cursors, rows = append(cursors, open(t, x, w[0], w[1])), append(rows, &row{keys: between(keys, w[0], w[1])})
			}
			number := numbers(uint64(tag))
			for range 600 {
				i, k := number(len(rows)), asked(keys)[number(len(asked(keys)))]
				switch number(6) {
				case 0, 1, 2:
					same(t, tell(cursors[i].Next()), rows[i].next(), "Next", tag, i)
				case 3, 4:
					same(t, tell(cursors[i].Prev()), rows[i].prev(), "Prev", tag, i)
				case 5:
					same(t, tell(cursors[i].Seek(k)), rows[i].seek(k), "Seek", tag, i, k)
				}
			}
			same(t, x.Insert(3) == api.OK, x.Version() == 1, "Insert", tag)
			if x.Version() == 1 {
				for i, c := range cursors {
					stale(t, c, "all of them", tag, i)
				}
			}
		}
	}
}

// TestStale behind each change, also if the keys are the same again then.
func TestStale(t *testing.T) {
	keys := []uint64{1, 5, 9, 12}
	for _, tag := range tags() {
		for i, change := range []func(x *look.Kept){
			func(x *look.Kept) { x.Insert(7) },
			func(x *look.Kept) { x.Insert(100) },
			func(x *look.Kept) { x.Delete(5) },
			func(x *look.Kept) { x.Delete(12) },
			func(x *look.Kept) { x.Wipe(4, 9) },
			func(x *look.Kept) { x.Wipe(10, 1000) },
			func(x *look.Kept) { x.Clear() },
			func(x *look.Kept) { x.Swap(newSet(t, 1+tag%5, 3, 1000, 5, 9)) },
			func(x *look.Kept) { x.Swap(newSet(t, tag, 3, 1000)) },
			func(x *look.Kept) { x.Insert(7); x.Delete(7) },
			func(x *look.Kept) { x.Delete(5); x.Insert(5) },
			func(x *look.Kept) { x.Clear(); x.Insert(1); x.Insert(5); x.Insert(9); x.Insert(12) },
			func(x *look.Kept) {
				x.Swap(newSet(t, 1+tag%5, 3, 1000, 5, 9))
				x.Swap(newSet(t, tag, 3, 1000, 1, 5, 9, 12))
			},
		} {
			for moves := range 6 {
				x := kept(t, tag, keys...)
				c := open(t, x, 2, 10)
				for range moves {
					c.Next()
				}
				same(t, c.Stale(), false, "Stale ahead of the change", tag, i)
				change(x)
				stale(t, c, "behind the change", tag, i, moves)
				now := slices.Collect(x.All())
				d := open(t, x, 2, 10)
				walks(t, d, &row{keys: between(now, 2, 10)}, tag, i)
				stale(t, c, "behind another one was opened", tag, i, moves)
			}
		}
	}
}

// TestNotStale behind what changes no key.
func TestNotStale(t *testing.T) {
	for _, tag := range tags() {
		for i, change := range []func(x *look.Kept){
			func(x *look.Kept) { x.Insert(5) },
			func(x *look.Kept) { x.Delete(6) },
			func(x *look.Kept) { x.Wipe(6, 8) },
			func(x *look.Kept) { x.Wipe(9, 5) },
			func(x *look.Kept) { x.Swap(nil) },
			func(x *look.Kept) { x.Swap(newSet(t, 1+tag%5, 3, 1000, 1, 5, 9, 12)) },
			func(x *look.Kept) { x.Swap(x.Set) },
			func(x *look.Kept) { x.Open(0, 9); x.Open(9, 0) },
		} {
			x := kept(t, tag, 1, 5, 9, 12)
			c, r := open(t, x, 2, 12), &row{keys: []uint64{5, 9, 12}}
			for range 5 {
				same(t, tell(c.Next()), r.next(), "Next", tag, i)
				change(x)
				same(t, c.Stale(), false, "Stale", tag, i)
				same(t, x.Version(), 0, "Version", tag, i)
			}
			walks(t, c, r, tag, i)
		}
		x := kept(t, tag)
		c := open(t, x, 2, 12)
		x.Clear()
		same(t, c.Stale(), false, "Stale behind a clear of nothing", tag)
		same(t, tell(c.Next()), told{0, api.ErrEnd}, "Next of nothing", tag)
		same(t, tell(c.Prev()), told{0, api.ErrEnd}, "Prev of nothing", tag)
		same(t, tell(c.Seek(5)), told{0, api.ErrEnd}, "Seek of nothing", tag)
	}
}

func TestRest(t *testing.T) {
	for _, keys := range samples() {
		for _, tag := range tags() {
			x := kept(t, tag, keys...)
			for n, w := range ranges(keys) {
				c, r := open(t, x, w[0], w[1]), &row{keys: between(keys, w[0], w[1])}
				list(t, rest(c, -1), r.rest(len(r.keys)), "Rest, whole", tag, w)
				same(t, len(rest(c, -1)), 0, "Rest, again", tag, w)
				same(t, tell(c.Next()), r.next(), "Next behind Rest", tag, w)
				same(t, tell(c.Prev()), r.prev(), "Prev behind Rest", tag, w)
				list(t, rest(c, -1), r.rest(1), "Rest of what is behind it", tag, w)
				for _, some := range []int{1, 2, 1 + n%5} {
					same(t, tell(c.Seek(0)), r.seek(0), "Seek", tag, w)
					list(t, rest(c, some), r.rest(some), "Rest, stopped", tag, w)
					same(t, tell(c.Next()), r.next(), "Next behind Rest that was stopped", tag, w)
					list(t, rest(c, some), r.rest(some), "Rest, gone on with", tag, w)
					same(t, tell(c.Prev()), r.prev(), "Prev behind Rest that was stopped", tag, w)
					list(t, rest(c, -1), r.rest(len(r.keys)), "the rest", tag, w)
				}
			}
		}
	}
}

// TestRestTwice: one iterator tells what is behind the cursor when it is gone through.
func TestRestTwice(t *testing.T) {
	for _, tag := range tags() {
		x := kept(t, tag, 1, 5, 9, 12)
		c := open(t, x, 2, greatest)
		s := c.Rest()
		same(t, tell(c.Next()), told{5, api.OK}, "Next", tag)
		list(t, slices.Collect(s), []uint64{9, 12}, "Rest that was made ahead of Next", tag)
		same(t, len(slices.Collect(s)), 0, "Rest, again", tag)
		same(t, tell(c.Seek(9)), told{9, api.OK}, "Seek", tag)
		list(t, slices.Collect(s), []uint64{9, 12}, "Rest behind Seek", tag)
		same(t, tell(c.Seek(0)), told{5, api.OK}, "Seek", tag)
		for k := range s {
			same(t, k, 5, "Rest", tag)
			break
		}
		for k := range s {
			same(t, k, 9, "Rest, stopped and gone through again", tag)
			break
		}
		same(t, x.Delete(1), api.OK, "Delete", tag)
		same(t, len(slices.Collect(s)), 0, "Rest of a stale cursor", tag)
		stale(t, c, "behind Delete", tag)
	}
}

func TestNil(t *testing.T) {
	var x *look.Kept
	for _, k := range []uint64{0, 5, greatest} {
		same(t, x.Insert(k), api.ErrNone, "Insert")
		same(t, x.Delete(k), api.ErrNone, "Delete")
		for _, to := range []uint64{0, 4, 5, greatest} {
			same(t, counts(x.Wipe(k, to)), counted{0, api.ErrNone}, "Wipe", k, to)
			c, e := x.Open(k, to)
			same(t, e, api.ErrNone, "Open", k, to)
			same(t, c, nil, "Open", k, to)
		}
	}
	x.Clear()
	x.Swap(nil)
	x.Swap(newSet(t, 1, 3, 10, 5))
	x.Swap(x)
	same(t, x.Version(), 0, "Version")
	var c *look.Cursor
	same(t, tell(c.Next()), told{0, api.ErrNone}, "Next")
	same(t, tell(c.Prev()), told{0, api.ErrNone}, "Prev")
	for _, k := range []uint64{0, 5, greatest} {
		same(t, tell(c.Seek(k)), told{0, api.ErrNone}, "Seek")
	}
	same(t, c.Stale(), true, "Stale")
	for range 2 {
		same(t, len(slices.Collect(c.Rest())), 0, "Rest")
	}
}

// TestGreatestRange: as many keys as there may be told, each once, in order.
func TestGreatestRange(t *testing.T) {
	for _, tag := range tags() {
		keys := spread(math.MaxUint64-3*8000+1, 8000, 3)
		x := kept(t, tag, keys...)
		c := open(t, x, 0, greatest)
		list(t, rest(c, -1), keys, "Rest", tag)
		for i := range keys {
			same(t, tell(c.Prev()), told{keys[len(keys)-1-i], api.OK}, "Prev", tag)
		}
		same(t, tell(c.Prev()), told{0, api.ErrEnd}, "Prev", tag)
	}
}
