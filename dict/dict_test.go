package dict_test

import (
	"math"
	"slices"
	"testing"

	"stepstone/api"
	"stepstone/code"
	"stepstone/dict"
	"stepstone/face"
	"stepstone/roar"
)

// P23.1

func TestNew(t *testing.T) {
	for _, tag := range tags() {
		for _, limit := range []int{0, 1, 2, 65, 66, 1000, api.MaxCap - 1, api.MaxCap} {
			for _, seed := range []uint64{0, 1, greatest} {
				m := newMap(t, tag, seed, limit)
				same(t, m.Used()+m.Taken(), 0, "Used and Taken", tag, limit)
				same(t, m.Limit(), limit, "Limit", tag, limit)
				has(t, m, nil, tag, limit)
				answers(t, m, nil, tag, limit)
			}
		}
	}
}

func TestTagsAndLimitsThereArent(t *testing.T) {
	for _, tag := range wrongTags() {
		for _, limit := range append(wrongLimits(), 0, 1, 100, api.MaxCap) {
			m, e := dict.New(tag, 3, limit)
			none(t, m, e, api.ErrArg, "New", tag, limit)
		}
	}
	for _, tag := range tags() {
		for _, limit := range wrongLimits() {
			m, e := dict.New(tag, 3, limit)
			none(t, m, e, api.ErrArg, "New", tag, limit)
		}
	}
}

// TestExample: Put 5: 7, Put 9: 1: Floor(8) = 5: 7; Encode: 1, 2, 5, 7, 3, 1.
func TestExample(t *testing.T) {
	for _, tag := range tags() {
		m := newMap(t, tag, 3, 1000)
		same(t, m.Put(5, 7), api.OK, "Put", tag)
		same(t, m.Put(9, 1), api.OK, "Put", tag)
		same(t, meets(m.Floor(8)), met{p(5, 7), true}, "Floor", tag)
		b, e := m.Encode()
		same(t, e, api.OK, "Encode", tag)
		list(t, b, []byte{1, 2, 5, 7, 3, 1}, "Encode", tag)
	}
}

func TestByHand(t *testing.T) {
	for _, tag := range tags() {
		m := newMap(t, tag, 8, api.MaxCap)
		same(t, m.Put(5, 7), api.OK, "Put", tag)
		same(t, m.Put(5, 8), api.OK, "Put of what is there", tag)
		same(t, gets(m.Get(5)), got{8, true}, "Get", tag)
		same(t, m.Insert(5), api.ErrExists, "Insert of what is there", tag)
		same(t, gets(m.Get(5)), got{8, true}, "Get: Insert left the value", tag)
		same(t, m.Insert(9), api.OK, "Insert", tag)
		same(t, gets(m.Get(9)), got{0, true}, "Get: Insert puts 0", tag)
		same(t, m.Insert(9), api.ErrExists, "Insert again", tag)
		same(t, m.Put(0, greatest), api.OK, "Put of key 0", tag)
		same(t, m.Put(greatest, 0), api.OK, "Put of the greatest key", tag)
		has(t, m, []api.Pair{p(0, greatest), p(5, 8), p(9, 0), p(greatest, 0)}, tag)
		same(t, m.Put(9, 3), api.OK, "Put", tag)
		same(t, m.Delete(5), api.OK, "Delete", tag)
		same(t, m.Delete(5), api.ErrNone, "Delete again", tag)
		same(t, gets(m.Get(5)), got{}, "Get of what isn't there", tag)
		same(t, m.Has(5), false, "Has", tag)
		same(t, m.Insert(5), api.OK, "Insert behind Delete", tag)
		same(t, gets(m.Get(5)), got{0, true}, "Get: the value ahead of Delete is gone", tag)
		same(t, m.Delete(9), api.OK, "Delete", tag)
		same(t, m.Put(9, 4), api.OK, "Put behind Delete", tag)
		has(t, m, []api.Pair{p(0, greatest), p(5, 0), p(9, 4), p(greatest, 0)}, tag)
		m.Clear()
		has(t, m, nil, tag)
		same(t, gets(m.Get(0)), got{}, "Get behind Clear", tag)
		same(t, m.Delete(0), api.ErrNone, "Delete behind Clear", tag)
		same(t, m.Insert(0), api.OK, "Insert behind Clear", tag)
		has(t, m, []api.Pair{p(0, 0)}, tag)
	}
}

func TestPut(t *testing.T) {
	for _, want := range samples() {
		for _, tag := range tags() {
			m := made(t, tag, 1, shuffled(want, 3)...)
			has(t, m, want, tag)
			answers(t, m, want, tag)
			used := m.Used()
			other := slices.Clone(want)
			for i := range other {
				other[i].Value = other[i].Value*3 + 1
				same(t, m.Put(other[i].Key, other[i].Value), api.OK, "Put of what is there", tag)
				same(t, gets(m.Get(other[i].Key)), got{other[i].Value, true}, "Get", tag)
			}
			has(t, m, other, tag)
			same(t, m.Used(), used, "Used behind other values", tag)
		}
	}
}

func TestInsertIsPutOfNought(t *testing.T) {
	for i, want := range samples() {
		for _, tag := range tags() {
			m, o := newMap(t, tag, 1, api.MaxCap), newMap(t, tag, 1, api.MaxCap)
			var noughts []api.Pair
			for _, x := range want {
				same(t, m.Insert(x.Key), api.OK, "Insert", tag, i)
				same(t, o.Put(x.Key, 0), api.OK, "Put", tag, i)
				noughts = append(noughts, p(x.Key, 0))
			}
			has(t, m, noughts, tag, i)
			same(t, tells(m), tells(o), "what is told", tag, i)
			for _, x := range want {
				same(t, m.Put(x.Key, x.Value), api.OK, "Put", tag, i)
				same(t, m.Insert(x.Key), api.ErrExists, "Insert of what is there", tag, i)
				same(t, gets(m.Get(x.Key)), got{x.Value, true}, "Get", tag, i)
			}
			has(t, m, want, tag, i)
		}
	}
}

// limits are lists of pairs that are put into a map whose limit just fits them, with a key that isn't there, and doesn't fit then.
type limits struct {
	l []api.Pair
	k uint64
}

// full are such of each tag: as keys if the map's Used is its limit then, else as values.
func full() map[int][]limits {
	apart := pairs(1, 0, 1<<63, 1<<62, 1<<61, 5<<60)
	return map[int][]limits{
		1: {{pairs(1, 5), 9}, {pairs(2, 5, 9), 1 << 40}, {apart, 3 << 58}, {pairs(3, spread(0, 16, 1)...), 1 << 50}},
		2: {{pairs(1, 5), 9}, {pairs(1, 5), 4}, {apart, 3 << 58}, {pairs(3, spread(0, 16, 1)...), 16}},
		3: {{pairs(1, 5), 9}, {apart, 3 << 58}, {pairs(3, spread(0, 128, 1)...), 128}, {pairs(3, spread(0, 129, 1)...), 500}},
		4: {{pairs(1, 5), 64}, {pairs(1, 5), 1 << 63}, {apart, 3 << 58}, {pairs(3, spread(0, 64, 1)...), 64}},
		5: {{pairs(1, 5), 9}, {apart, 3 << 58}, {pairs(3, spread(0, 300, 1)...), 300}, {pairs(3, spread(0, 4096, 1)...), 1 << 20}},
	}
}

// TestFull: neither Put nor Insert of what doesn't fit changes anything; what is there is put all the same.
func TestFull(t *testing.T) {
	for tag, cases := range full() {
		for i, c := range cases {
			m := newMap(t, tag, uint64(i), fits(t, tag, c.l))
			same(t, loads(m.Load(c.l...)), loaded{len(c.l), api.OK}, "Load", tag, i)
			was := tells(m)
			for range 3 {
				same(t, m.Put(c.k, 8), api.ErrFull, "Put", tag, i)
				same(t, tells(m), was, "what is told behind Put", tag, i)
				same(t, m.Insert(c.k), api.ErrFull, "Insert", tag, i)
				same(t, tells(m), was, "what is told behind Insert", tag, i)
				same(t, gets(m.Get(c.k)), got{}, "Get of what didn't fit", tag, i)
				same(t, m.Has(c.k), false, "Has of what didn't fit", tag, i)
				same(t, m.Delete(c.k), api.ErrNone, "Delete of what didn't fit", tag, i)
			}
			var l []api.Pair
			for _, x := range c.l {
				same(t, m.Insert(x.Key), api.ErrExists, "Insert of what is there", tag, i)
				same(t, m.Put(x.Key, x.Value+1), api.OK, "Put of what is there", tag, i)
				l = append(l, p(x.Key, x.Value+1))
			}
			slices.SortFunc(l, byKey)
			has(t, m, l, tag, i)
			last := c.l[len(c.l)-1].Key
			same(t, m.Delete(last), api.OK, "Delete", tag, i)
			same(t, m.Put(last, 3), api.OK, "Put behind Delete", tag, i)
			same(t, gets(m.Get(last)), got{3, true}, "Get", tag, i)
			same(t, m.Put(c.k, 8), api.ErrFull, "Put", tag, i)
		}
	}
}

func byKey(a, b api.Pair) int {
	switch {
	case a.Key < b.Key:
		return -1
	case a.Key > b.Key:
		return 1
	}
	return 0
}

// keyFits tells whether a bare set of that limit has room for these keys, and for k behind them.
func keyFits(t *testing.T, tag, limit int, l []api.Pair, k uint64) bool {
	t.Helper()
	s := newSet(t, tag, 3, limit)
	for _, x := range l {
		same(t, s.Insert(x.Key), api.OK, "layer 20's Insert", tag)
	}
	return s.Insert(k) == api.OK
}

// TestFullAsKey, where a value would fit.
func TestFullAsKey(t *testing.T) {
	for tag, c := range map[int]struct {
		limit, used int
		l           []api.Pair
		k           uint64
	}{
		1: {6, 4, []api.Pair{p(0, 7), p(1<<40, 8), p(1<<41, 9), p(1<<63, 1)}, 1 << 42},
		2: {70, 66, []api.Pair{p(5, 7)}, 9},
		3: {68, 68, []api.Pair{p(5, 7)}, 9},
		4: {20, 11, []api.Pair{p(5, 7), p(9, 8)}, 1 << 63},
		5: {3, 2, []api.Pair{p(5, 7)}, 1 << 40},
	} {
		same(t, keyFits(t, tag, c.limit, c.l, c.k), false, "the key fits", tag)
		m := newMap(t, tag, 3, c.limit)
		same(t, loads(m.Load(c.l...)), loaded{len(c.l), api.OK}, "Load", tag)
		was := tells(m)
		same(t, m.Used(), c.used, "Used", tag)
		same(t, m.Put(c.k, 4), api.ErrFull, "Put", tag)
		same(t, m.Insert(c.k), api.ErrFull, "Insert", tag)
		same(t, tells(m), was, "what is told", tag)
		same(t, gets(m.Get(c.k)), got{}, "Get", tag)
		has(t, m, c.l, tag)
		m = newMap(t, tag, 3, c.limit+70)
		same(t, loads(m.Load(c.l...)), loaded{len(c.l), api.OK}, "Load", tag)
		same(t, m.Put(c.k, 4), api.OK, "Put with a greater limit", tag)
	}
}

// TestFullAsValue, where the key would fit.
func TestFullAsValue(t *testing.T) {
	for i, c := range []struct {
		tag, limit, used int
		keys             []uint64
		k                uint64
	}{
		{1, 1, 1, []uint64{5}, 9},
		{1, 1, 1, []uint64{greatest}, 0},
		{1, 3, 3, []uint64{1, 2, 3}, 1 << 40},
		{1, 200, 21, spread(0, 200, 1), 200},
		{5, 5000, 1025, spread(0, 5000, 1), 5000},
		{5, 5000, 1025, spread(65536, 5000, 13), 65536 + 1},
	} {
		l := pairs(uint64(i), c.keys...)
		same(t, keyFits(t, c.tag, c.limit, l, c.k), true, "the key fits", i)
		m := newMap(t, c.tag, 3, c.limit)
		same(t, loads(m.Load(l...)), loaded{len(l), api.OK}, "Load", i)
		same(t, m.Used(), c.used, "Used", i)
		was := tells(m)
		for range 2 {
			same(t, m.Put(c.k, 4), api.ErrFull, "Put", i)
			same(t, m.Insert(c.k), api.ErrFull, "Insert", i)
			same(t, m.Insert(c.keys[0]), api.ErrExists, "Insert of what is there", i)
			same(t, m.Put(c.keys[0], l[0].Value), api.OK, "Put of what is there", i)
			same(t, tells(m), was, "what is told", i)
			same(t, gets(m.Get(c.k)), got{}, "Get", i)
		}
		has(t, m, l, i)
		last := len(l) - 1
		same(t, m.Delete(c.keys[last]), api.OK, "Delete", i)
		same(t, m.Put(c.k, 4), api.OK, "Put behind Delete", i)
		same(t, m.Put(c.keys[last], 4), api.ErrFull, "Put of what was deleted", i)
		same(t, m.Insert(c.keys[last]), api.ErrFull, "Insert of what was deleted", i)
		l[last] = p(c.k, 4)
		slices.SortFunc(l, byKey)
		has(t, m, l, i)
		m.Clear()
		same(t, m.Put(c.k, 4), api.OK, "Put behind Clear", i)
	}
}

// TestNoRoomAtAll: of limit 0.
func TestNoRoomAtAll(t *testing.T) {
	for _, tag := range tags() {
		m := newMap(t, tag, 1, 0)
		for _, k := range []uint64{0, 5, greatest} {
			same(t, m.Put(k, k), api.ErrFull, "Put", tag, k)
			same(t, m.Insert(k), api.ErrFull, "Insert", tag, k)
			same(t, m.Delete(k), api.ErrNone, "Delete", tag, k)
			same(t, loads(m.Load(p(k, k))), loaded{0, api.ErrFull}, "Load", tag, k)
			m.Clear()
		}
		has(t, m, nil, tag)
		answers(t, m, nil, tag)
	}
}

func TestDelete(t *testing.T) {
	for i, want := range samples() {
		for _, tag := range tags() {
			m, left := made(t, tag, 9, want...), slices.Clone(want)
			for n, x := range shuffled(want, uint64(i)) {
				same(t, m.Delete(x.Key), api.OK, "Delete", tag, i)
				same(t, gets(m.Get(x.Key)), got{}, "Get", tag, i)
				same(t, m.Delete(x.Key), api.ErrNone, "Delete again", tag, i)
				left = slices.DeleteFunc(left, func(y api.Pair) bool { return y == x })
				if n%20 == 0 {
					has(t, m, left, tag, i)
				}
			}
			has(t, m, nil, tag, i)
			same(t, m.Used(), 0, "Used", tag, i)
			for _, x := range want {
				same(t, gets(m.Get(x.Key)), got{}, "Get", tag, i)
				same(t, m.Insert(x.Key), api.OK, "Insert behind Delete", tag, i)
				same(t, gets(m.Get(x.Key)), got{0, true}, "Get", tag, i)
			}
		}
	}
}

// TestDeleteFreesValues: as many again as there may be, time and again.
func TestDeleteFreesValues(t *testing.T) {
	m := newMap(t, 1, 3, 200)
	for n := range uint64(20) {
		for k := range uint64(200) {
			same(t, m.Put(k+n, k*n), api.OK, "Put", n, k)
		}
		same(t, m.Put(1000, 1), api.ErrFull, "Put", n)
		for k := range uint64(200) {
			same(t, gets(m.Get(k+n)), got{k * n, true}, "Get", n, k)
			same(t, m.Delete(k+n), api.OK, "Delete", n, k)
		}
	}
}

// TestDeleteMayBeFull, of tag 5 alone: what is left of a box would use more. Then the value stays, too.
func TestDeleteMayBeFull(t *testing.T) {
	l := pairs(1, append(spread(0, 4097, 1), spread(1<<20, 903, 2)...)...)
	for _, tag := range tags() {
		limit := 5000
		if tag != api.Roar {
			limit = api.MaxCap
		}
		m := newMap(t, tag, 3, limit)
		same(t, loads(m.Load(l...)), loaded{5000, api.OK}, "Load", tag)
		was := tells(m)
		for _, k := range []uint64{0, 77, 4096} {
			if tag != api.Roar {
				same(t, m.Delete(k), api.OK, "Delete", tag)
				continue
			}
			v, _ := m.Get(k)
			same(t, m.Delete(k), api.ErrFull, "Delete", k)
			same(t, gets(m.Get(k)), got{v, true}, "Get", k)
			same(t, tells(m), was, "what is told", k)
		}
		same(t, m.Delete(9000), api.ErrNone, "Delete of what isn't there", tag)
		if tag == api.Roar {
			has(t, m, l, "behind ErrFull")
			same(t, m.Delete(1<<20), api.OK, "Delete of another box's")
			same(t, m.Delete(77), api.OK, "Delete behind that")
			same(t, gets(m.Get(77)), got{}, "Get behind that")
			same(t, m.Used(), 5000, "Used")
		}
	}
}

func TestClear(t *testing.T) {
	for i, want := range samples() {
		for _, tag := range tags() {
			m := newMap(t, tag, 2, max(fits(t, tag, want), 1))
			for n := range 3 {
				m.Clear()
				has(t, m, nil, tag, i)
				same(t, m.Used(), 0, "Used behind Clear", tag, i)
				for _, x := range want {
					same(t, gets(m.Get(x.Key)), got{}, "Get behind Clear", tag, i)
				}
				same(t, loads(m.Load(want...)), loaded{len(want), api.OK}, "Load", tag, i, n)
				has(t, m, want, tag, i)
			}
		}
	}
}

// TestSetsMethods: what isn't a map's own is as the Set's that was told the same, its steps too.
func TestSetsMethods(t *testing.T) {
	for i, want := range samples() {
		for _, tag := range tags() {
			limit := fits(t, tag, want) + i
			m, s := newMap(t, tag, 5, limit), newSet(t, tag, 5, limit)
			for _, x := range want {
				same(t, m.Put(x.Key, x.Value), s.Insert(x.Key), "Put, and Insert", tag, i)
				same(t, m.Used(), s.Used(), "Used", tag, i)
			}
			same(t, m.Limit(), limit, "Limit", tag, i)
			same(t, m.Len(), s.Len(), "Len", tag, i)
			list(t, slices.Collect(m.All()), slices.Collect(s.All()), "All", tag, i)
			for _, k := range asked(want) {
				same(t, m.Has(k), s.Has(k), "Has", tag, i)
				same(t, m.Taken(), s.Taken(), "Taken of Has", tag, i)
				same(t, find(m.Next(k)), find(s.Next(k)), "Next", tag, i)
				same(t, m.Taken(), s.Taken(), "Taken of Next", tag, i)
				m.Get(k)
				same(t, find(m.Prev(k)), find(s.Prev(k)), "Prev", tag, i)
				same(t, m.Taken(), s.Taken(), "Taken of Prev", tag, i)
				same(t, face.Rank(m.Set, k), face.Rank(s, k), "layer 20's Rank", tag, i)
			}
			same(t, find(m.Min()), find(s.Min()), "Min", tag, i)
			same(t, m.Taken(), s.Taken(), "Taken of Min", tag, i)
			same(t, find(m.Max()), find(s.Max()), "Max", tag, i)
			same(t, m.Taken(), s.Taken(), "Taken of Max", tag, i)
			for k := range m.All() {
				same(t, k, want[0].Key, "All, stopped", tag, i)
				break
			}
		}
	}
}

// TestRunsMayBeFull: where the Set keeps its keys in runs.
func TestRunsMayBeFull(t *testing.T) {
	m := newMap(t, api.Roar, 0, 100)
	l := pairs(1, spread(0, 98, 1)...)
	same(t, loads(m.Load(l...)), loaded{98, api.OK}, "Load")
	r, ok := m.Set.(*roar.Roar)
	same(t, ok, true, "it is kept as layer 17 does")
	same(t, r.Optimise(), 1, "Optimise")
	same(t, loads(m.Load(p(1<<20, 3))), loaded{1, api.OK}, "Load of another box")
	has(t, m, append(slices.Clone(l), p(1<<20, 3)))
	same(t, m.Put(200, 4), api.ErrFull, "Put of what makes the runs plain")
	same(t, m.Put(20, l[20].Value+1), api.OK, "Put of what is there")
	l[20].Value++
	has(t, m, append(l, p(1<<20, 3)))
}

// P23.2

func TestFloorAndCeilByHand(t *testing.T) {
	for _, tag := range tags() {
		m := made(t, tag, 3, p(9, 1), p(5, 7), p(1<<40, 0))
		for _, c := range []struct {
			k           uint64
			floor, ceil met
		}{
			{0, met{}, met{p(5, 7), true}},
			{4, met{}, met{p(5, 7), true}},
			{5, met{p(5, 7), true}, met{p(5, 7), true}},
			{6, met{p(5, 7), true}, met{p(9, 1), true}},
			{9, met{p(9, 1), true}, met{p(9, 1), true}},
			{10, met{p(9, 1), true}, met{p(1<<40, 0), true}},
			{1 << 40, met{p(1<<40, 0), true}, met{p(1<<40, 0), true}},
			{1<<40 + 1, met{p(1<<40, 0), true}, met{}},
			{greatest, met{p(1<<40, 0), true}, met{}},
		} {
			same(t, meets(m.Floor(c.k)), c.floor, "Floor", tag, c.k)
			same(t, meets(m.Ceil(c.k)), c.ceil, "Ceil", tag, c.k)
		}
		for i, want := range []api.Pair{p(5, 7), p(9, 1), p(1<<40, 0)} {
			same(t, meets(m.At(i)), met{want, true}, "At", tag, i)
		}
		for _, i := range []int{math.MinInt, -1, 3, 4, math.MaxInt} {
			same(t, meets(m.At(i)), met{}, "At", tag, i)
		}
		m = made(t, tag, 3, p(0, 4), p(greatest, 6))
		same(t, meets(m.Floor(0)), met{p(0, 4), true}, "Floor", tag)
		same(t, meets(m.Ceil(0)), met{p(0, 4), true}, "Ceil", tag)
		same(t, meets(m.Floor(greatest-1)), met{p(0, 4), true}, "Floor", tag)
		same(t, meets(m.Ceil(1)), met{p(greatest, 6), true}, "Ceil", tag)
		same(t, meets(m.Floor(greatest)), met{p(greatest, 6), true}, "Floor", tag)
		same(t, meets(m.Ceil(greatest)), met{p(greatest, 6), true}, "Ceil", tag)
	}
}

// TestAskingChangesNothing: not of what isn't there either.
func TestAskingChangesNothing(t *testing.T) {
	for _, want := range samples() {
		for _, tag := range tags() {
			m := made(t, tag, 4, want...)
			was := tells(m)
			answers(t, m, want, tag)
			same(t, tells(m), was, "what is told", tag)
			has(t, m, want, tag)
		}
	}
}

func TestPairs(t *testing.T) {
	for _, want := range samples() {
		for _, tag := range tags() {
			m := made(t, tag, 6, shuffled(want, 2)...)
			s := m.Pairs()
			for range 2 {
				list(t, collect(s), want, "Pairs", tag)
			}
			for stop := 0; stop < len(want); stop += 1 + len(want)/5 {
				var l []api.Pair
				for k, v := range s {
					l = append(l, p(k, v))
					if len(l) == stop+1 {
						break
					}
				}
				list(t, l, want[:stop+1], "Pairs, stopped", tag, stop)
			}
			list(t, collect(s), want, "Pairs behind that", tag)
			if len(want) > 0 {
				same(t, m.Put(want[0].Key, 77), api.OK, "Put", tag)
				same(t, m.Delete(want[len(want)-1].Key), api.OK, "Delete", tag)
				other := slices.Clone(want)
				other[0].Value = 77
				list(t, collect(s), other[:len(want)-1], "Pairs tell what is there when they are gone through", tag)
			}
		}
	}
}

func TestLoad(t *testing.T) {
	for _, tag := range tags() {
		m := newMap(t, tag, 3, api.MaxCap)
		same(t, loads(m.Load()), loaded{0, api.OK}, "Load of none", tag)
		same(t, loads(m.Load([]api.Pair{}...)), loaded{0, api.OK}, "Load of none", tag)
		same(t, loads(m.Load(p(5, 7))), loaded{1, api.OK}, "Load", tag)
		same(t, loads(m.Load(p(9, 1), p(5, 8), p(9, 2), p(0, 3), p(9, 4))), loaded{5, api.OK}, "Load of some that are there", tag)
		has(t, m, []api.Pair{p(0, 3), p(5, 8), p(9, 4)}, tag)
	}
	for i, want := range samples() {
		for _, tag := range tags() {
			m := newMap(t, tag, 3, api.MaxCap)
			twice := append(pairs(uint64(i+1), keys(want)...), shuffled(want, 1)...)
			same(t, loads(m.Load(twice...)), loaded{2 * len(want), api.OK}, "Load of each twice", tag, i)
			has(t, m, want, tag, i)
		}
	}
}

func keys(l []api.Pair) []uint64 {
	var r []uint64
	for _, x := range l {
		r = append(r, x.Key)
	}
	return r
}

// TestLoadTillFull: those ahead of the first that doesn't fit are put, and none behind it.
func TestLoadTillFull(t *testing.T) {
	for tag, cases := range full() {
		for i, c := range cases {
			limit := fits(t, tag, c.l)
			first := c.l[0]
			for _, behind := range [][]api.Pair{nil, {p(first.Key, 99)}, {p(c.k+1, 1), p(first.Key, 5)}} {
				m := newMap(t, tag, 3, limit)
				l := slices.Concat(c.l, []api.Pair{p(first.Key, 66), p(c.k, 9)}, behind)
				same(t, loads(m.Load(l...)), loaded{len(c.l) + 1, api.ErrFull}, "Load", tag, i)
				want := slices.Clone(c.l)
				want[0].Value = 66
				slices.SortFunc(want, byKey)
				has(t, m, want, tag, i)
				same(t, loads(m.Load(p(c.k, 9))), loaded{0, api.ErrFull}, "Load of what doesn't fit", tag, i)
				has(t, m, want, tag, i)
			}
		}
	}
	m := newMap(t, 1, 3, 1)
	same(t, loads(m.Load(p(5, 7), p(5, 8), p(9, 1), p(5, 9))), loaded{2, api.ErrFull}, "Load till there is no room for a value")
	has(t, m, []api.Pair{p(5, 8)})
}

// TestLoadMemory: what is handed in isn't changed, and not kept.
func TestLoadMemory(t *testing.T) {
	for _, tag := range tags() {
		m := newMap(t, tag, 3, api.MaxCap)
		room := []api.Pair{p(9, 1), p(5, 7), p(9, 2), p(77, 77)}
		was := slices.Clone(room)
		same(t, loads(m.Load(room[:3]...)), loaded{3, api.OK}, "Load", tag)
		list(t, room, was, "what was handed in", tag)
		clear(room)
		has(t, m, []api.Pair{p(5, 7), p(9, 2)}, tag)
	}
}

// P23.3

func TestEncode(t *testing.T) {
	for _, want := range samples() {
		bytes, e := code.Pairs(want)
		same(t, e, api.OK, "layer 19's Pairs")
		for _, tag := range tags() {
			m := made(t, tag, 5, shuffled(want, 7)...)
			a, e := m.Encode()
			same(t, e, api.OK, "Encode", tag)
			list(t, a, bytes, "Encode", tag)
			b, _ := m.Encode()
			for i := range a[:cap(a)] {
				a[:cap(a)][i] = 99
			}
			list(t, b, bytes, "another answer", tag)
			has(t, m, want, tag)
		}
	}
}

// TestTooManyPairs: of MaxKeys pairs there are bytes, of one more there are none.
func TestTooManyPairs(t *testing.T) {
	for _, tag := range []int{1, 4, 5} {
		m := newMap(t, tag, 3, api.MaxCap)
		for k := range uint64(api.MaxKeys) {
			if e := m.Put(k, k%5); e != api.OK {
				t.Fatal(tag, k, e)
			}
		}
		b, e := m.Encode()
		same(t, e, api.OK, "Encode of MaxKeys pairs", tag)
		same(t, len(b), 1+code.Size(api.MaxKeys)+2*api.MaxKeys, "Encode of MaxKeys pairs", tag)
		o, e := dict.Decode(b, 5, 3, api.MaxCap)
		same(t, e, api.OK, "Decode of MaxKeys pairs", tag)
		same(t, o.Len(), api.MaxKeys, "Decode of MaxKeys pairs", tag)
		same(t, gets(o.Get(api.MaxKeys-1)), got{(api.MaxKeys - 1) % 5, true}, "Get", tag)
		same(t, m.Insert(greatest), api.OK, "Insert of one more", tag)
		b, e = m.Encode()
		same(t, e, api.ErrArg, "Encode of one more", tag)
		same(t, len(b), 0, "Encode of one more", tag)
		same(t, m.Delete(7), api.OK, "Delete", tag)
		_, e = m.Encode()
		same(t, e, api.OK, "Encode behind Delete", tag)
	}
}

// TestDecode: from each tag into each, with limits that just fit, and one less.
func TestDecode(t *testing.T) {
	for i, want := range samples() {
		for _, from := range tags() {
			b, e := made(t, from, 5, shuffled(want, 7)...).Encode()
			same(t, e, api.OK, "Encode", from, i)
			was := slices.Clone(b)
			for _, tag := range tags() {
				need := fits(t, tag, want)
				m, e := dict.Decode(b, tag, uint64(i), need)
				same(t, e, api.OK, "Decode", from, tag, i)
				same(t, m.Limit(), need, "Limit", from, tag, i)
				has(t, m, want, from, tag, i)
				list(t, b, was, "what was handed in", from, tag, i)
				if need > 0 {
					m, e = dict.Decode(b, tag, uint64(i), need-1)
					none(t, m, e, api.ErrFull, "Decode", from, tag, i)
					m, e = dict.Decode(b, tag, uint64(i), 0)
					none(t, m, e, api.ErrFull, "Decode", from, tag, i)
				}
				list(t, b, was, "what was handed in", from, tag, i)
			}
		}
	}
}

// TestDecodeIsFullByHand: as a key, and as a value.
func TestDecodeIsFullByHand(t *testing.T) {
	for _, c := range []struct {
		l    []api.Pair
		need [6]int
	}{
		{[]api.Pair{p(5, 7)}, [6]int{0, 1, 66, 68, 11, 2}},
		{[]api.Pair{p(5, 7), p(9, 0)}, [6]int{0, 2, 71, 69, 11, 3}},
		{[]api.Pair{p(0, 1), p(greatest, 2)}, [6]int{0, 2, 131, 69, 21, 4}},
		{[]api.Pair{p(1, 0), p(2, 0), p(3, 0)}, [6]int{0, 3, 71, 70, 11, 4}},
	} {
		b, e := code.Pairs(c.l)
		same(t, e, api.OK, "layer 19's Pairs")
		for _, tag := range tags() {
			m, e := dict.Decode(b, tag, 8, c.need[tag])
			same(t, e, api.OK, "Decode", tag, c.l)
			has(t, m, c.l, tag)
			m, e = dict.Decode(b, tag, 8, c.need[tag]-1)
			none(t, m, e, api.ErrFull, "Decode", tag, c.l)
		}
	}
}

// notPairs are bytes of no pairs: of keys, and of nothing.
func notPairs() []string {
	return []string{
		"", "\x00", "\x00\x00", "\x00\x01\x05", "\x00\x02\x05\x03", "\x00\x02\x05\x07\x03\x01", "\x01", "\x02", "\x02\x00", "\xff", "\x01\x00\x00", "\x01\x01", "\x01\x01\x05", "\x01\x01\x05\x07\x00",
		"\x01\x02\x05\x07\x03", "\x01\x02\x05\x07\x03\x01\x01", "\x01\x01\x05\x80", "\x01\x01\x05\x80\x00", "\x01\x81\x00\x05\x07", "\x81\x00\x01\x05\x07",
		"\x01\x02\xff\xff\xff\xff\xff\xff\xff\xff\xff\x01\x00\x00\x00", "\x01\x01\xff\xff\xff\xff\xff\xff\xff\xff\xff\x02\x00", "\x01\x01\x00\xff\xff\xff\xff\xff\xff\xff\xff\xff\x02", "\x01\x81\x80\x10",
	}
}

func TestDecodeOfNoPairs(t *testing.T) {
	for _, b := range notPairs() {
		for _, tag := range tags() {
			for _, limit := range []int{0, 1, api.MaxCap} {
				m, e := dict.Decode([]byte(b), tag, 3, limit)
				none(t, m, e, api.ErrForm, "Decode", tag, []byte(b))
			}
		}
	}
	for _, tag := range tags() {
		m, e := dict.Decode(nil, tag, 3, 5)
		none(t, m, e, api.ErrForm, "Decode of nil", tag)
		m, e = dict.Decode([]byte{1, 0}, tag, 3, 0)
		same(t, e, api.OK, "Decode of no pairs at all", tag)
		has(t, m, nil, tag)
	}
}

// TestDecodeOfAnyBytes: just the bytes that a map would tell are taken.
func TestDecodeOfAnyBytes(t *testing.T) {
	number := numbers(3)
	for n := range 20000 {
		b := []byte{byte(number(3)), byte(number(4))}
		for range number(9) {
			b = append(b, []byte{0, 1, 2, 5, 127, 128, 200, 255, byte(number(256))}[number(9)])
		}
		tag := 1 + n%5
		l, pairs, e := code.Parse(b)
		m, f := dict.Decode(b, tag, 3, api.MaxCap)
		if e != api.OK || !pairs {
			none(t, m, f, api.ErrForm, "Decode", tag, b)
			continue
		}
		same(t, f, api.OK, "Decode", tag, b)
		has(t, m, l, tag)
		again, _ := m.Encode()
		list(t, again, b, "Encode of what was decoded", tag)
	}
}

func TestDecodeNewsErrors(t *testing.T) {
	good, _ := code.Pairs([]api.Pair{p(5, 7)})
	for _, b := range append(notPairs(), string(good), "\x01\x00") {
		for _, tag := range wrongTags() {
			for _, limit := range []int{-1, 0, 1, 100, api.MaxCap, api.MaxCap + 1} {
				m, e := dict.Decode([]byte(b), tag, 3, limit)
				none(t, m, e, api.ErrArg, "Decode", tag, limit)
			}
		}
		for _, tag := range tags() {
			for _, limit := range wrongLimits() {
				m, e := dict.Decode([]byte(b), tag, 3, limit)
				none(t, m, e, api.ErrArg, "Decode", tag, limit)
			}
		}
	}
}

// TestDecodeMemory: what was handed in may be written over.
func TestDecodeMemory(t *testing.T) {
	for _, tag := range tags() {
		room := []byte{1, 2, 5, 7, 3, 1, 77, 78}
		m, e := dict.Decode(room[:6], tag, 3, 1000)
		same(t, e, api.OK, "Decode", tag)
		list(t, room, []byte{1, 2, 5, 7, 3, 1, 77, 78}, "what was handed in", tag)
		clear(room)
		has(t, m, []api.Pair{p(5, 7), p(9, 1)}, tag)
	}
}

// TestNil: of a nil map, in each call of the chapter.
func TestNil(t *testing.T) {
	var m *dict.Map
	for _, k := range []uint64{0, 5, greatest} {
		same(t, m.Put(k, 7), api.ErrNone, "Put")
		same(t, gets(m.Get(k)), got{}, "Get")
		same(t, m.Insert(k), api.ErrNone, "Insert")
		same(t, m.Delete(k), api.ErrNone, "Delete")
		same(t, meets(m.Floor(k)), met{}, "Floor")
		same(t, meets(m.Ceil(k)), met{}, "Ceil")
		same(t, loads(m.Load(p(k, 7))), loaded{0, api.ErrNone}, "Load")
	}
	for _, i := range places(0) {
		same(t, meets(m.At(i)), met{}, "At", i)
	}
	same(t, loads(m.Load()), loaded{0, api.ErrNone}, "Load of none")
	m.Clear()
	for range 2 {
		list(t, collect(m.Pairs()), nil, "Pairs")
	}
	b, e := m.Encode()
	same(t, e, api.OK, "Encode")
	list(t, b, []byte{1, 0}, "Encode: of no pairs")
}
