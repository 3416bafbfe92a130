package trie_test

import (
	"iter"
	"maps"
	"math"
	"slices"
	"testing"

	"stepstone/api"
	"stepstone/count"
	"stepstone/trie"
)

const greatest = math.MaxUint64

func same[T comparable](t *testing.T, got, want T, what string, about ...any) {
	t.Helper()
	if got != want {
		t.Fatalf("%s %v: %v, not %v", what, about, got, want)
	}
}

// list holds lists against each other; long ones aren't told.
func list(t *testing.T, got, want []uint64, what string, about ...any) {
	t.Helper()
	if !slices.Equal(got, want) {
		t.Fatalf("%s %v: %v (%d), not %v (%d)", what, about, got[:min(len(got), 40)], len(got), want[:min(len(want), 40)], len(want))
	}
}

// found is what a call answers that may find nothing.
type found struct {
	key uint64
	ok  bool
}

func find(k uint64, ok bool) found { return found{k, ok} }

// steps is what a meter tells: Taken, Reads, Calls, Peak, Starts.
type steps [5]int

func tell(m *count.Meter) steps {
	return steps{m.Taken(), m.Reads(), m.Calls(), m.Peak(), m.Starts()}
}

// numbers answers a function that tells numbers below n, on and on, by the seed.
func numbers(seed uint64) func(n int) int {
	return func(n int) int {
		seed = seed*6364136223846793005 + 1442695040888963407
		return int(seed >> 33 % uint64(n))
	}
}

func shuffled(l []uint64, seed uint64) []uint64 {
	number, r := numbers(seed), slices.Clone(l)
	for i := range r {
		j := i + number(len(r)-i)
		r[i], r[j] = r[j], r[i]
	}
	return r
}

func reversed(l []uint64) []uint64 {
	r := slices.Clone(l)
	slices.Reverse(r)
	return r
}

// beginning is so many first bits of a key.
type beginning struct {
	bits int
	of   uint64
}

// beginnings are the eleven of a key that the document names.
func beginnings(k uint64) []beginning {
	var l []beginning
	for _, bits := range []int{0, 4, 10, 16, 22, 28, 34, 40, 46, 52, 58} {
		l = append(l, beginning{bits, k >> (64 - bits)})
	}
	return l
}

// model is a trie as the document's words tell it: a plain rising list, and how many of its keys have each beginning.
type model struct {
	limit int
	keys  []uint64
	nodes map[beginning]int
}

func newModel(limit int) *model { return &model{limit: limit, nodes: map[beginning]int{}} }

func (m *model) has(k uint64) bool {
	_, ok := slices.BinarySearch(m.keys, k)
	return ok
}

// more is how many beginnings k has that no key in it has.
func (m *model) more(k uint64) int {
	n := 0
	for _, b := range beginnings(k) {
		if m.nodes[b] == 0 {
			n++
		}
	}
	return n
}

func (m *model) insert(k uint64) api.Errno {
	i, ok := slices.BinarySearch(m.keys, k)
	switch {
	case ok:
		return api.ErrExists
	case len(m.nodes)+m.more(k) > m.limit:
		return api.ErrFull
	}
	m.keys = slices.Insert(m.keys, i, k)
	for _, b := range beginnings(k) {
		m.nodes[b]++
	}
	return api.OK
}

func (m *model) delete(k uint64) api.Errno {
	i, ok := slices.BinarySearch(m.keys, k)
	if !ok {
		return api.ErrNone
	}
	m.keys = slices.Delete(m.keys, i, i+1)
	for _, b := range beginnings(k) {
		if m.nodes[b]--; m.nodes[b] == 0 {
			delete(m.nodes, b)
		}
	}
	return api.OK
}

// at is the key at that place of the list.
func (m *model) at(i int) found {
	if i < 0 || i >= len(m.keys) {
		return found{}
	}
	return found{m.keys[i], true}
}

// rank is how many are below k.
func (m *model) rank(k uint64) int {
	i, _ := slices.BinarySearch(m.keys, k)
	return i
}

func (m *model) next(k uint64) found { return m.at(m.rank(k)) }

func (m *model) prev(k uint64) found {
	if m.has(k) {
		return found{k, true}
	}
	return m.at(m.rank(k) - 1)
}

// each tells how many of l were new ahead of the first that there was no room for, and how many were handed in till then.
func (m *model) each(l []uint64) (added, tried int) {
	for _, k := range l {
		tried++
		switch m.insert(k) {
		case api.OK:
			added++
		case api.ErrFull:
			return added, tried
		}
	}
	return added, tried
}

// held is a trie that is held against a model behind each call.
type held struct {
	t *testing.T
	x *trie.Trie
	m *model
}

func newTrie(t *testing.T, limit int) *trie.Trie {
	t.Helper()
	x, e := trie.New(limit)
	if e != api.OK || x == nil {
		t.Fatalf("New %d: %v, %v", limit, x, e)
	}
	return x
}

func hold(t *testing.T, limit int) held {
	t.Helper()
	return held{t, newTrie(t, limit), newModel(limit)}
}

// filled has the keys, inserted in this order.
func filled(t *testing.T, limit int, keys []uint64) held {
	t.Helper()
	h := hold(t, limit)
	for _, k := range keys {
		same(t, h.insert(k), api.OK, "Insert", k, "of", keys)
	}
	return h
}

// unbound is of the operations whose steps aren't bounded.
const unbound = math.MaxInt

// operation holds that f begins one operation, which takes at most so many steps, all of them Reads.
func (h held) operation(most int, f func(), what string, about ...any) {
	h.t.Helper()
	ahead, nodes := tell(h.x.Meter), h.x.Used()
	f()
	behind := tell(h.x.Meter)
	taken := behind[0]
	if taken > most {
		h.t.Fatalf("%s %v: %d steps, not at most %d", what, about, taken, most)
	}
	// A node that is read is a step: what nodes have can't be told without one.
	if (taken > 0) != (nodes > 0) {
		h.t.Fatalf("%s %v: %d steps, of %d nodes", what, about, taken, nodes)
	}
	same(h.t, behind, steps{taken, ahead[1] + taken, 0, max(ahead[3], taken), ahead[4] + 1}, "steps of "+what, about...)
	h.behind(what, about...)
}

// quiet holds that f begins no operation; its steps would count to the one before, which may take no more: so it takes none.
func (h held) quiet(f func(), what string, about ...any) {
	h.t.Helper()
	ahead := tell(h.x.Meter)
	f()
	same(h.t, tell(h.x.Meter), ahead, "steps of "+what, about...)
}

// behind holds what is told behind every call.
func (h held) behind(what string, about ...any) {
	h.t.Helper()
	h.quiet(func() {
		same(h.t, h.x.Len(), len(h.m.keys), "Len behind "+what, about...)
		same(h.t, h.x.Used(), len(h.m.nodes), "Used behind "+what, about...)
		same(h.t, h.x.Limit(), h.m.limit, "Limit behind "+what, about...)
	}, "Len, Used, Limit")
}

func (h held) insert(k uint64) api.Errno {
	h.t.Helper()
	want := h.m.insert(k)
	h.operation(unbound, func() { same(h.t, h.x.Insert(k), want, "Insert", k) }, "Insert", k)
	return want
}

func (h held) delete(k uint64) api.Errno {
	h.t.Helper()
	want := h.m.delete(k)
	h.operation(unbound, func() { same(h.t, h.x.Delete(k), want, "Delete", k) }, "Delete", k)
	return want
}

func (h held) has(k uint64) bool {
	h.t.Helper()
	want := h.m.has(k)
	h.operation(11, func() { same(h.t, h.x.Has(k), want, "Has", k) }, "Has", k)
	return want
}

func (h held) next(k uint64) found {
	h.t.Helper()
	want := h.m.next(k)
	h.operation(12, func() { same(h.t, find(h.x.Next(k)), want, "Next", k) }, "Next", k)
	return want
}

func (h held) prev(k uint64) found {
	h.t.Helper()
	want := h.m.prev(k)
	h.operation(12, func() { same(h.t, find(h.x.Prev(k)), want, "Prev", k) }, "Prev", k)
	return want
}

func (h held) min() found {
	h.t.Helper()
	want := h.m.at(0)
	h.operation(1, func() { same(h.t, find(h.x.Min()), want, "Min") }, "Min")
	return want
}

func (h held) max() found {
	h.t.Helper()
	want := h.m.at(len(h.m.keys) - 1)
	h.operation(1, func() { same(h.t, find(h.x.Max()), want, "Max") }, "Max")
	return want
}

func (h held) rank(k uint64) int {
	h.t.Helper()
	want := h.m.rank(k)
	h.quiet(func() { same(h.t, h.x.Rank(k), want, "Rank", k) }, "Rank", k)
	h.behind("Rank", k)
	return want
}

func (h held) pick(i int) found {
	h.t.Helper()
	want := h.m.at(i)
	h.quiet(func() { same(h.t, find(h.x.Select(i)), want, "Select", i) }, "Select", i)
	h.behind("Select", i)
	return want
}

func (h held) each(l ...uint64) int {
	h.t.Helper()
	starts, handed := h.x.Starts(), slices.Clone(l)
	want, tried := h.m.each(l)
	same(h.t, h.x.Each(l...), want, "Each", l)
	// Each one is an Insert, which begins an operation.
	same(h.t, h.x.Starts(), starts+tried, "Starts of Each", l)
	list(h.t, l, handed, "what was handed to Each")
	h.behind("Each", l)
	return want
}

func (h held) all() []uint64 {
	h.t.Helper()
	h.quiet(func() { list(h.t, slices.Collect(h.x.All()), h.m.keys, "All") }, "All")
	h.behind("All")
	return h.m.keys
}

func (h held) clear() {
	h.t.Helper()
	h.m.keys = nil
	clear(h.m.nodes)
	h.quiet(func() { h.x.Clear() }, "Clear")
	h.behind("Clear")
}

// about are k, the keys beside it, and those that part from it in one bit.
func about(k uint64) []uint64 {
	l := []uint64{k - 1, k, k + 1}
	for i := range 64 {
		l = append(l, k^1<<i)
	}
	return l
}

// asked holds all that the trie answers about k.
func (h held) asked(k uint64) {
	h.t.Helper()
	h.has(k)
	h.next(k)
	h.prev(k)
	h.rank(k)
}

// whole holds all that the trie tells.
func (h held) whole() {
	h.t.Helper()
	h.all()
	h.min()
	h.max()
	for i := range h.m.keys {
		h.pick(i)
	}
	n := len(h.m.keys)
	for _, i := range []int{math.MinInt, -1 << 32, -n - 1, -n, -2, -1, n, n + 1, api.MaxCap, 1 << 32, math.MaxInt} {
		same(h.t, h.pick(i), found{}, "Select", i)
	}
	for _, k := range []uint64{0, 1, 1<<63 - 1, 1 << 63, greatest - 1, greatest} {
		h.asked(k)
	}
	for _, k := range h.m.keys {
		h.asked(k - 1)
		h.asked(k)
		h.asked(k + 1)
	}
}

// closely is whole, with keys asked that part from those in it in each bit.
func (h held) closely() {
	h.t.Helper()
	h.whole()
	for _, k := range h.m.keys {
		for _, a := range about(k) {
			h.asked(a)
		}
	}
}

// stays holds that f changes nothing that the trie tells.
func (h held) stays(f func()) {
	h.t.Helper()
	keys, used := slices.Clone(h.m.keys), len(h.m.nodes)
	f()
	list(h.t, h.m.keys, keys, "keys")
	same(h.t, len(h.m.nodes), used, "nodes")
	h.whole()
}

// parting are two keys for each bit that they part in, the first one of which is the lesser.
func parting(i int) (uint64, uint64) {
	k := 0x5a5a_a5a5_3c3c_c3c3 &^ (uint64(1) << i)
	return k, k | 1<<i
}

// bits is one key for each bit, with that bit alone.
func bits() []uint64 {
	var l []uint64
	for i := range 64 {
		l = append(l, 1<<i)
	}
	return l
}

// spread is n keys that are by apart, from from on.
func spread(from uint64, n int, by uint64) []uint64 {
	var l []uint64
	for i := range uint64(n) {
		l = append(l, from+i*by)
	}
	return l
}

// mixed is n keys here and there: some with the same first bits, some far apart.
func mixed(n int, seed uint64) []uint64 {
	number := numbers(seed)
	var l []uint64
	for len(l) < n {
		k := uint64(number(1<<30))<<34 | uint64(number(1<<30))<<4 | uint64(number(16))
		k = k >> (6 * number(11)) << (6 * number(11))
		if !slices.Contains(l, k) {
			l = append(l, k)
		}
	}
	return l
}

func samples() map[string][]uint64 {
	return map[string][]uint64{
		"none":                         nil,
		"the least":                    {0},
		"the greatest":                 {greatest},
		"both ends":                    {0, greatest},
		"beside the ends":              {0, 1, greatest - 1, greatest},
		"the example":                  {5, 9},
		"all of a last word":           spread(0x1234_5678_9abc_de00, 64, 1),
		"over the edge of a last word": spread(0x1234_5678_9abc_dffe, 4, 1),
		"the first four bits":          spread(0, 16, 1<<60),
		"the second six bits":          spread(0x3fff_ffff_ffff_ffff&^(63<<54), 64, 1<<54),
		"each bit alone":               bits(),
		"each beginning":               spread(0, 11, 0x0041_0410_4104_1041),
		"one behind the other":         spread(1<<63-50, 100, 1),
		"by sevens":                    spread(0, 90, 7),
		"far apart":                    spread(3, 90, 0x9e37_79b9_7f4a_7c15),
		"here and there":               mixed(80, 5),
	}
}

// wrongLimits are those that there can't be.
func wrongLimits() []int {
	return []int{math.MinInt, math.MinInt + 1, -1 << 32, -api.MaxCap, -11, -2, -1, api.MaxCap + 1, api.MaxCap + 2, 2 * api.MaxCap, 1 << 32, math.MaxInt - 1, math.MaxInt}
}

// P11.1

func TestNew(t *testing.T) {
	for _, limit := range []int{0, 1, 2, 10, 11, 12, 63, 4096, api.MaxCap - 1, api.MaxCap} {
		h := hold(t, limit)
		same(t, tell(h.x.Meter), steps{}, "steps at first")
		h.behind("New", limit)
		h.whole()
	}
}

func TestLimitsThereCantBe(t *testing.T) {
	for _, limit := range wrongLimits() {
		x, e := trie.New(limit)
		same(t, e, api.ErrArg, "New", limit)
		same(t, x, nil, "New", limit)
	}
}

func TestSamples(t *testing.T) {
	for name, l := range samples() {
		rising := slices.Sorted(slices.Values(l))
		for _, order := range [][]uint64{l, rising, reversed(rising), shuffled(l, 7)} {
			h := filled(t, api.MaxCap, order)
			list(t, h.all(), rising, name)
			h.whole()
			for _, k := range order {
				same(t, h.insert(k), api.ErrExists, "Insert", k)
			}
			h.all()
		}
	}
}

func TestSamplesClosely(t *testing.T) {
	for _, l := range samples() {
		h := filled(t, api.MaxCap, l[:min(len(l), 40)])
		h.closely()
		for _, k := range l[:len(h.m.keys)/2] {
			same(t, h.delete(k), api.OK, "Delete", k)
		}
		h.closely()
	}
}

// TestSamplesGrowAndFall holds everything behind each call.
func TestSamplesGrowAndFall(t *testing.T) {
	for _, l := range samples() {
		l = l[:min(len(l), 24)]
		h := hold(t, api.MaxCap)
		for _, k := range shuffled(l, 3) {
			same(t, h.insert(k), api.OK, "Insert", k)
			h.whole()
		}
		for _, k := range shuffled(l, 4) {
			same(t, h.delete(k), api.OK, "Delete", k)
			h.whole()
		}
		same(t, h.x.Used(), 0, "Used at last")
	}
}

// few are keys that part from each other in the first bits, in the last, and between.
func few() []uint64 {
	return []uint64{0x8000_0000_0000_0000, 0x8000_0000_0000_0001, 0x8000_0000_0000_0040, 0x8000_0000_4000_0000, 0x8040_0000_0000_0000, 0x9000_0000_0000_0000, 0x9000_0000_0000_003f}
}

// TestAllOfFew: whatever choice of some keys there is, in whatever way it came about.
func TestAllOfFew(t *testing.T) {
	l := few()
	for choice := range 1 << len(l) {
		h := filled(t, api.MaxCap, l)
		var rest []uint64
		for i, k := range l {
			if choice>>i&1 == 0 {
				same(t, h.delete(k), api.OK, "Delete", k)
			} else {
				rest = append(rest, k)
			}
		}
		h.whole()
		o := filled(t, api.MaxCap, rest)
		same(t, h.x.Used(), o.x.Used(), "Used of", rest)
		o.whole()
	}
}

// orders hands on each order of l.
func orders(l []uint64, f func([]uint64)) {
	l = slices.Clone(l)
	var from func(n int)
	from = func(n int) {
		if n == len(l) {
			f(l)
		}
		for i := n; i < len(l); i++ {
			l[n], l[i] = l[i], l[n]
			from(n + 1)
			l[n], l[i] = l[i], l[n]
		}
	}
	from(0)
}

// TestAllOrders: in whatever orders keys come and go, nothing is left, and nothing used, and there is room again.
func TestAllOrders(t *testing.T) {
	for _, l := range [][]uint64{{0, 1, greatest}, few()[:4], few()[3:7], {5, 9, 6, 7}, {63, 64, 127, 128}, {1 << 60, 1<<60 - 1, 1 << 54, 1 << 58}} {
		used := len(filled(t, api.MaxCap, l).m.nodes)
		orders(l, func(in []uint64) {
			orders(l, func(out []uint64) {
				// The limit is what they need: what stayed behind would be in the way.
				h := filled(t, used, in)
				same(t, h.x.Used(), used, "Used of", in)
				for _, k := range out {
					same(t, h.delete(k), api.OK, "Delete", k, "of", out)
					same(t, h.delete(k), api.ErrNone, "Delete", k, "of", out)
					h.all()
				}
				same(t, h.x.Len(), 0, "Len at last")
				same(t, h.x.Used(), 0, "Used at last")
				same(t, h.each(in...), len(in), "Each", in)
			})
		})
	}
}

func TestManyOrders(t *testing.T) {
	for seed, l := range [][]uint64{spread(0, 300, 1), spread(1<<40, 200, 1<<17), mixed(200, 9), bits(), spread(greatest-70, 71, 1)} {
		rising := slices.Sorted(slices.Values(l))
		used := len(filled(t, api.MaxCap, l).m.nodes)
		h := hold(t, used)
		for _, order := range [][]uint64{l, rising, reversed(rising), shuffled(l, uint64(seed)), shuffled(l, uint64(seed)+50)} {
			same(t, h.each(shuffled(l, uint64(seed)+99)...), len(l), "Each")
			same(t, h.x.Used(), used, "Used")
			for i, k := range order {
				same(t, h.delete(k), api.OK, "Delete", k)
				if i%8 == 0 {
					h.all()
					h.asked(k)
					h.min()
					h.max()
					h.pick(i % max(len(h.m.keys), 1))
				}
			}
			h.whole()
			same(t, h.x.Used(), 0, "Used at last")
		}
	}
}

// TestEachBit: keys that part in one bit share the beginnings that end ahead of it.
func TestEachBit(t *testing.T) {
	for i := range 64 {
		a, b := parting(i)
		used := 11 + i/6
		for _, l := range [][]uint64{{0, 1 << i}, {greatest, greatest ^ 1<<i}, {a, b}, {b, a}} {
			h := filled(t, used, l)
			same(t, h.x.Used(), used, "Used", l)
			same(t, h.x.Len(), 2, "Len", l)
			h.closely()
			least, other := min(l[0], l[1]), max(l[0], l[1])
			same(t, find(h.x.Next(least+1)), found{other, true}, "Next", least+1)
			same(t, find(h.x.Prev(other-1)), found{least, true}, "Prev", other-1)
			same(t, h.delete(l[0]), api.OK, "Delete", l)
			same(t, h.x.Used(), 11, "Used", l[1])
			h.closely()
			if i < 6 {
				continue // they part in the last word only: the other one needs no node
			}
			f := filled(t, used-1, l[:1])
			f.stays(func() { same(t, f.insert(l[1]), api.ErrFull, "Insert", l) })
		}
	}
}

func TestTheEnds(t *testing.T) {
	h := hold(t, 21)
	none := found{}
	same(t, h.insert(greatest), api.OK, "Insert")
	same(t, h.next(0), found{greatest, true}, "Next")
	same(t, h.next(greatest), found{greatest, true}, "Next")
	same(t, h.prev(greatest-1), none, "Prev")
	same(t, h.rank(greatest), 0, "Rank")
	same(t, h.insert(0), api.OK, "Insert")
	same(t, h.prev(0), found{0, true}, "Prev")
	same(t, h.next(1), found{greatest, true}, "Next")
	same(t, h.prev(greatest-1), found{0, true}, "Prev")
	same(t, h.rank(greatest), 1, "Rank")
	same(t, h.rank(0), 0, "Rank")
	same(t, h.min(), found{0, true}, "Min")
	same(t, h.max(), found{greatest, true}, "Max")
	same(t, h.x.Used(), 21, "Used")
	same(t, h.delete(greatest), api.OK, "Delete")
	same(t, h.next(0), found{0, true}, "Next")
	same(t, h.next(1), none, "Next")
	same(t, h.prev(greatest), found{0, true}, "Prev")
	same(t, h.max(), found{0, true}, "Max")
	same(t, h.delete(0), api.OK, "Delete")
	same(t, h.min(), none, "Min")
	same(t, h.max(), none, "Max")
	same(t, h.x.Used(), 0, "Used")
}

// TestEmpty: of none there is nothing to find and nothing to delete, at first and behind the last key.
func TestEmpty(t *testing.T) {
	for _, limit := range []int{0, 1, 10, 11, 50, api.MaxCap} {
		h := hold(t, limit)
		for range 3 {
			for _, k := range append(about(0), about(greatest)...) {
				same(t, h.delete(k), api.ErrNone, "Delete", k)
				same(t, h.has(k), false, "Has", k)
				same(t, h.next(k), found{}, "Next", k)
				same(t, h.prev(k), found{}, "Prev", k)
				same(t, h.rank(k), 0, "Rank", k)
			}
			h.whole()
			if h.insert(1<<63) == api.OK {
				same(t, h.delete(1<<63), api.OK, "Delete")
			}
		}
	}
}

// TestDeleteOfOthers: of a key that isn't in it nothing goes, how near it may be.
func TestDeleteOfOthers(t *testing.T) {
	for _, k := range []uint64{0, 5, 0x8000_0000_0000_0000, 0x0123_4567_89ab_cdef, greatest} {
		h := filled(t, 40, []uint64{k})
		for _, o := range about(k) {
			if o != k {
				same(t, h.delete(o), api.ErrNone, "Delete", o)
				same(t, h.has(k), true, "Has", k)
			}
		}
		h.whole()
		same(t, h.insert(k), api.ErrExists, "Insert", k)
		same(t, h.delete(k), api.OK, "Delete", k)
		same(t, h.delete(k), api.ErrNone, "Delete", k)
		h.whole()
	}
}

func TestLimitsTooSmall(t *testing.T) {
	for limit := range 11 {
		h := hold(t, limit)
		for _, k := range about(0x0123_4567_89ab_cdef) {
			h.stays(func() { same(t, h.insert(k), api.ErrFull, "Insert", k) })
			same(t, h.delete(k), api.ErrNone, "Delete", k)
			same(t, h.each(k, k), 0, "Each", k)
		}
	}
}

// TestFull: whatever the limit is, just what is above it is refused, and when keys go there is room again.
func TestFull(t *testing.T) {
	for _, l := range [][]uint64{bits(), spread(0, 16, 1<<60), mixed(60, 2), spread(60, 90, 1), {5, 9, greatest, 1 << 63, 1 << 62, 7}} {
		for limit := range 90 {
			h := hold(t, limit)
			for _, k := range l {
				h.insert(k)
			}
			h.all()
			for _, k := range l {
				h.delete(k)
				h.insert(l[0])
				h.insert(k)
			}
			h.whole()
		}
	}
}

// TestFullChangesNothing, to the last node: one less is too few, and then the key that needs none still goes in.
func TestFullChangesNothing(t *testing.T) {
	for _, l := range [][]uint64{{5, 9}, few(), bits(), spread(7, 40, 1<<33)} {
		for n := 1; n < len(l); n++ {
			used := len(filled(t, api.MaxCap, l[:n]).m.nodes)
			h := filled(t, used, l[:n])
			more := h.m.more(l[n])
			for limit := used; limit < used+more; limit++ {
				o := filled(t, limit, l[:n])
				o.stays(func() { same(t, o.insert(l[n]), api.ErrFull, "Insert", l[n], "limit", limit) })
				o.stays(func() { same(t, o.each(l[n], l[n]), 0, "Each", l[n], "limit", limit) })
				// What is there already isn't kept out by what is full.
				for _, k := range l[:n] {
					same(t, o.insert(k), api.ErrExists, "Insert", k, "limit", limit)
				}
				same(t, o.insert(l[0]^2), api.OK, "Insert", l[0]^2, "limit", limit)
				o.whole()
			}
			o := filled(t, used+more, l[:n+1])
			same(t, o.x.Used(), used+more, "Used")
		}
	}
}

// TestLastWordIsFree: keys whose beginnings are all there need no node more.
func TestLastWordIsFree(t *testing.T) {
	for _, from := range []uint64{0, 0x1234_5678_9abc_de00, greatest - 63} {
		h := hold(t, 11)
		for _, k := range shuffled(spread(from, 64, 1), from) {
			same(t, h.insert(k), api.OK, "Insert", k)
			same(t, h.x.Used(), 11, "Used")
		}
		h.whole()
		same(t, h.insert(from-1), api.ErrFull, "Insert", from-1)
		same(t, h.insert(from+64), api.ErrFull, "Insert", from+64)
		for _, k := range shuffled(spread(from, 64, 1), from+1) {
			same(t, h.x.Used(), 11, "Used")
			same(t, h.delete(k), api.OK, "Delete", k)
		}
		same(t, h.x.Used(), 0, "Used")
	}
}

func TestGreatestLimit(t *testing.T) {
	h := hold(t, api.MaxCap)
	x := h.x
	// 2^17 keys by their first 17 bits: below them each has 7 nodes, above it are 65536 + 1024 + 16 + 1.
	n := 1 << 17
	same(t, x.Each(spread(0, n, 1<<47)...), n, "Each")
	used := 7*n + 65536 + 1024 + 16 + 1
	same(t, x.Used(), used, "Used")
	// A key more that parts from one of them behind its 22nd bit has 6 nodes by itself.
	for k := uint64(1 << 36); used+6 <= api.MaxCap; k += 1 << 47 {
		same(t, x.Insert(k), api.OK, "Insert", k)
		used += 6
		n++
	}
	same(t, x.Used(), used, "Used")
	same(t, x.Len(), n, "Len")
	same(t, x.Insert(greatest-1<<42), api.ErrFull, "Insert")
	same(t, used+6 > api.MaxCap && used < api.MaxCap, true, "almost full", used)
	for i := range uint64(api.MaxCap - used) {
		k := i<<47 | 1<<6 // it parts just ahead of the last node: one node
		same(t, x.Insert(k), api.OK, "Insert", k)
		n++
	}
	same(t, x.Used(), api.MaxCap, "Used")
	same(t, x.Len(), n, "Len")
	same(t, x.Insert(1<<12), api.ErrFull, "Insert")
	same(t, x.Insert(greatest), api.ErrFull, "Insert")
	same(t, x.Insert(1), api.OK, "Insert")
	same(t, x.Insert(1), api.ErrExists, "Insert")
	same(t, x.Used(), api.MaxCap, "Used")
	same(t, x.Delete(5<<47), api.OK, "Delete")
	same(t, x.Len(), n, "Len")
	x.Clear()
	h.whole()
	same(t, h.insert(greatest), api.OK, "Insert")
	h.whole()
}

func TestRankAndSelect(t *testing.T) {
	h := filled(t, api.MaxCap, []uint64{70, 5, 1 << 40, 9, greatest, 1 << 63})
	for k, want := range map[uint64]int{0: 0, 4: 0, 5: 0, 6: 1, 9: 1, 10: 2, 69: 2, 70: 2, 71: 3, 1<<40 - 1: 3, 1 << 40: 3, 1<<40 + 1: 4, 1<<63 - 1: 4, 1 << 63: 4, 1<<63 + 1: 5, greatest - 1: 5, greatest: 5} {
		same(t, h.rank(k), want, "Rank", k)
		same(t, h.x.Rank(k), want, "Rank", k)
	}
	for i, want := range []uint64{5, 9, 70, 1 << 40, 1 << 63, greatest} {
		same(t, find(h.x.Select(i)), found{want, true}, "Select", i)
	}
	for _, i := range []int{math.MinInt, -6, -1, 6, 7, 63, 64, math.MaxInt} {
		same(t, find(h.x.Select(i)), found{}, "Select", i)
	}
}

func TestNextAndPrev(t *testing.T) {
	h := filled(t, api.MaxCap, []uint64{70, 5, 1 << 40, 9, 1 << 63})
	for k, want := range map[uint64]uint64{0: 5, 5: 5, 6: 9, 9: 9, 10: 70, 63: 70, 64: 70, 70: 70, 71: 1 << 40, 1<<40 - 1: 1 << 40, 1 << 40: 1 << 40, 1<<40 + 1: 1 << 63, 1<<63 - 1: 1 << 63, 1 << 63: 1 << 63} {
		same(t, find(h.x.Next(k)), found{want, true}, "Next", k)
	}
	for k, want := range map[uint64]uint64{5: 5, 8: 5, 9: 9, 69: 9, 70: 70, 127: 70, 128: 70, 1<<40 - 1: 70, 1 << 40: 1 << 40, 1<<63 - 1: 1 << 40, 1 << 63: 1 << 63, 1<<63 + 1: 1 << 63, greatest: 1 << 63} {
		same(t, find(h.x.Prev(k)), found{want, true}, "Prev", k)
	}
	for _, k := range []uint64{1<<63 + 1, 1<<63 + 64, greatest} {
		same(t, find(h.x.Next(k)), found{}, "Next", k)
	}
	for _, k := range []uint64{0, 1, 4} {
		same(t, find(h.x.Prev(k)), found{}, "Prev", k)
	}
}

func TestEach(t *testing.T) {
	h := hold(t, 21)
	same(t, h.each(), 0, "Each of none")
	same(t, h.each([]uint64{}...), 0, "Each of none")
	same(t, h.each(5), 1, "Each of one")
	same(t, h.each(5), 0, "Each of what is there")
	same(t, h.each(9, 5, 9, 7, 7, 5), 2, "Each of some twice")
	// What is full ends it: 6 would need no node, but stands behind.
	same(t, h.each(5, 1<<63, 1<<63, 8, 1<<62, 6), 2, "Each till it's full")
	list(t, h.all(), []uint64{5, 7, 8, 9, 1 << 63}, "All")
	same(t, h.x.Used(), 21, "Used")
	same(t, h.each(5, 9, 7, 8, 1<<63), 0, "Each of what is there, full")
	same(t, h.each(1<<62, 6), 0, "Each, full at once")
	same(t, h.each(6, 6, 1<<63|1, 5), 2, "Each of what needs no node, full")
	h.whole()
	same(t, h.delete(1<<63), api.OK, "Delete")
	same(t, h.delete(1<<63|1), api.OK, "Delete")
	same(t, h.each(1<<62, 1<<62, 1<<61), 1, "Each, with room again")
	h.whole()
}

func TestEachOfSamples(t *testing.T) {
	for _, l := range samples() {
		twice := append(slices.Clone(l), l...)
		for _, limit := range []int{0, 10, 11, 12, 20, 21, 31, 64, 200, api.MaxCap} {
			for seed := range uint64(4) {
				h := hold(t, limit)
				h.each(shuffled(twice, seed)...)
				h.each(shuffled(twice, seed+9)...)
				h.all()
			}
		}
		h := hold(t, api.MaxCap)
		same(t, h.each(twice...), len(l), "Each")
		h.whole()
	}
}

// TestHandedIn: what is handed in is neither changed nor kept, and its spare room isn't either.
func TestHandedIn(t *testing.T) {
	room := spread(1, 200, 77)
	want := slices.Clone(room)
	h := hold(t, api.MaxCap)
	same(t, h.x.Each(room[:100]...), 100, "Each")
	list(t, room, want, "what was handed in")
	for i := range room {
		room[i] = 3
	}
	list(t, slices.Collect(h.x.All()), want[:100], "All")
	l := slices.Collect(h.x.All())
	clear(l[:cap(l)])
	list(t, slices.Collect(h.x.All()), want[:100], "All")
}

// stopped is what s tells to one who stops it behind n.
func stopped(s iter.Seq[uint64], n int) []uint64 {
	var l []uint64
	s(func(k uint64) bool {
		l = append(l, k)
		return len(l) < n
	})
	return l
}

func TestAll(t *testing.T) {
	for name, keys := range samples() {
		h := hold(t, api.MaxCap)
		all := h.x.All()
		list(t, slices.Collect(all), nil, "All of none")
		h.each(keys...)
		want := slices.Sorted(slices.Values(keys))
		for range 2 {
			list(t, slices.Collect(all), want, "All, gone through again", name)
			list(t, slices.Collect(h.x.All()), want, "All", name)
		}
		for n := 1; n <= len(want); n++ {
			list(t, stopped(all, n), want[:n], "All, stopped", name)
		}
		for i, k := range want {
			h.delete(k)
			list(t, slices.Collect(all), want[i+1:], "All behind Delete", name)
		}
		h.each(keys...)
		list(t, slices.Collect(all), want, "All behind Each", name)
		h.clear()
		list(t, slices.Collect(all), nil, "All behind Clear", name)
	}
}

func TestAllWithinItself(t *testing.T) {
	for _, l := range [][]uint64{few(), spread(60, 9, 1), bits()[:20]} {
		h := filled(t, api.MaxCap, l)
		want := slices.Sorted(slices.Values(l))
		all := h.x.All()
		var got []uint64
		for k := range all {
			got = append(got, k)
			list(t, slices.Collect(all), want, "All within itself")
			list(t, stopped(all, 2), want[:2], "All within itself, stopped")
			h.asked(k)
			h.pick(len(got))
		}
		list(t, got, want, "All")
	}
}

func TestClear(t *testing.T) {
	for _, l := range samples() {
		h := hold(t, max(11*len(l), 11))
		h.clear()
		h.whole()
		for seed := range uint64(3) {
			same(t, h.each(shuffled(l, seed)...), len(l), "Each")
			if seed == 1 && len(l) > 1 {
				same(t, h.delete(l[0]), api.OK, "Delete")
			}
			started := h.x.Starts()
			h.clear()
			same(t, h.x.Starts(), started, "Starts behind Clear")
			h.whole()
			for _, k := range l {
				same(t, h.has(k), false, "Has", k)
				same(t, h.delete(k), api.ErrNone, "Delete", k)
			}
			h.clear()
			same(t, h.insert(77), api.OK, "Insert")
			h.whole()
			h.clear()
		}
		h.each(l...)
		h.whole()
	}
}

func TestTriesStandApart(t *testing.T) {
	a, b := hold(t, 40), hold(t, 30)
	same(t, a.each(5, 9, 1<<63), 3, "Each")
	b.whole()
	same(t, b.each(9, 10, 64), 3, "Each")
	same(t, a.delete(9), api.OK, "Delete")
	a.whole()
	b.whole()
	a.clear()
	b.whole()
	same(t, b.delete(64), api.OK, "Delete")
	same(t, tell(a.x.Meter) == tell(b.x.Meter), false, "meters")
	a.whole()
	b.whole()
}

// P11.2

// TestStepsOfTheDeepest: the way of what is asked ends in the last word, but what is beside it parts from it further up, in this bit: so the most nodes are read.
func TestStepsOfTheDeepest(t *testing.T) {
	for i := 6; i < 64; i++ {
		below := 0x4444_4444_4444_4444 &^ (uint64(1) << i)
		above := below | 1<<i
		h := filled(t, api.MaxCap, []uint64{below &^ 4, above, above | 1})
		same(t, h.next(below), found{above, true}, "Next", below)
		h = filled(t, api.MaxCap, []uint64{above | 1, below, below &^ 4})
		same(t, h.prev(above), found{below, true}, "Prev", above)
	}
}

// TestSteps: in whatever trie, no operation takes more than it may, nor does the peak of all.
func TestSteps(t *testing.T) {
	l := append(append(spread(0, 4000, 1), spread(1<<30, 3000, 1<<9)...), mixed(1500, 8)...)
	x := newTrie(t, api.MaxCap)
	x.Each(l...)
	ask := append(spread(1<<29, 4000, 1<<10), spread(7, 4000, 0x9e37_79b9_7f4a_7c15)...)
	calls := map[string]struct {
		most int
		call func(k uint64)
	}{
		"Has":  {11, func(k uint64) { x.Has(k) }},
		"Next": {12, func(k uint64) { x.Next(k) }},
		"Prev": {12, func(k uint64) { x.Prev(k) }},
		"Min":  {1, func(uint64) { x.Min() }},
		"Max":  {1, func(uint64) { x.Max() }},
	}
	for name, c := range calls {
		for _, k := range append(l, ask...) {
			c.call(k)
			if n := x.Taken(); n < 1 || n > c.most {
				t.Fatalf("%s %d: %d steps", name, k, n)
			}
		}
	}
}

// TestPeak: what begins no operation doesn't add to the one before.
func TestPeak(t *testing.T) {
	h := filled(t, api.MaxCap, mixed(300, 4))
	x := h.x
	for i, k := range mixed(300, 4) {
		x.Has(k)
		taken := x.Taken()
		x.Rank(k)
		x.Select(i)
		x.Len()
		x.Used()
		h.all()
		same(t, x.Taken(), taken, "Taken behind Has", k)
	}
	x.Min()
	x.Clear()
	same(t, x.Taken(), 1, "Taken behind Min and Clear")
}

func TestWhatBeginsAnOperation(t *testing.T) {
	h := hold(t, 31)
	for range 2 {
		starts := h.x.Starts()
		begins := []func(){
			func() { h.x.Insert(5) }, func() { h.x.Insert(5) }, func() { h.x.Delete(6) }, func() { h.x.Delete(5) }, func() { h.x.Has(5) },
			func() { h.x.Next(5) }, func() { h.x.Prev(5) }, func() { h.x.Min() }, func() { h.x.Max() }, func() { h.x.Insert(7) }, func() { h.x.Next(7) }, func() { h.x.Prev(8) },
			func() { h.x.Insert(1 << 63) }, func() { h.x.Insert(1 << 62) }, func() { h.x.Insert(1 << 61) },
		}
		for i, f := range begins {
			f()
			same(t, h.x.Starts(), starts+i+1, "Starts behind", i)
		}
		starts = h.x.Starts()
		for i, f := range []func(){
			func() { h.x.Len() }, func() { h.x.Used() }, func() { h.x.Limit() }, func() { h.x.All() }, func() { stopped(h.x.All(), 2) },
			func() { h.x.Rank(9) }, func() { h.x.Select(0) }, func() { h.x.Select(9) }, func() { h.x.Each() }, func() { h.x.Clear() },
		} {
			f()
			same(t, h.x.Starts(), starts, "Starts behind", i)
		}
		same(t, h.x.Each(5, 5, 6), 2, "Each")
		same(t, h.x.Starts(), starts+3, "Starts behind Each of three")
		h.x.Clear()
	}
}

func TestMeter(t *testing.T) {
	x := newTrie(t, 40)
	own := x.Meter
	same(t, own != nil, true, "a meter")
	x.Insert(5)
	x.Has(5)
	same(t, tell(own), steps{x.Taken(), x.Reads(), x.Calls(), x.Peak(), x.Starts()}, "the trie's methods")
	same(t, x.Starts(), 2, "Starts")
	reads, peak := x.Reads(), x.Peak()
	x.Start()
	same(t, tell(own), steps{0, reads, 0, peak, 3}, "steps behind Start")
	x.Read()
	x.Call()
	x.Call()
	same(t, tell(own), steps{3, reads + 1, 2, max(peak, 3), 3}, "steps behind Read, Call, Call")
	x.Min()
	same(t, tell(own), steps{1, reads + 2, 2, max(peak, 3), 4}, "steps behind Min")
	same(t, count.Sum(own), reads+4, "Sum")
	same(t, count.Worst(own), x.Peak(), "Worst")
	x.Clear()
	same(t, tell(own), steps{1, reads + 2, 2, max(peak, 3), 4}, "steps behind Clear")
	same(t, x.Meter, own, "the meter")
	same(t, tell(newTrie(t, 40).Meter), steps{}, "steps of another")
}

func TestNil(t *testing.T) {
	var x *trie.Trie
	all := x.All()
	for range 2 {
		for _, k := range append(about(0), about(greatest)...) {
			same(t, x.Insert(k), api.ErrNone, "nil Insert", k)
			same(t, x.Delete(k), api.ErrNone, "nil Delete", k)
			same(t, x.Has(k), false, "nil Has", k)
			same(t, find(x.Next(k)), found{}, "nil Next", k)
			same(t, find(x.Prev(k)), found{}, "nil Prev", k)
			same(t, x.Rank(k), 0, "nil Rank", k)
			same(t, x.Each(k, k, 5), 0, "nil Each", k)
		}
		for _, i := range []int{math.MinInt, -1, 0, 1, math.MaxInt} {
			same(t, find(x.Select(i)), found{}, "nil Select", i)
		}
		same(t, find(x.Min()), found{}, "nil Min")
		same(t, find(x.Max()), found{}, "nil Max")
		same(t, x.Len()+x.Used()+x.Limit()+x.Each(), 0, "nil Len, Used, Limit, Each")
		list(t, slices.Collect(x.All()), nil, "nil All")
		list(t, slices.Collect(all), nil, "nil All, gone through again")
		x.Clear()
	}
}

func TestExample(t *testing.T) {
	h := hold(t, 11)
	same(t, h.insert(5), api.OK, "Insert")
	same(t, h.insert(9), api.OK, "Insert")
	same(t, find(h.x.Next(6)), found{9, true}, "Next")
	same(t, h.x.Used(), 11, "Used")
	same(t, h.x.Rank(9), 1, "Rank")
	h.closely()
}

func TestVeryMany(t *testing.T) {
	n := 1 << 16
	lists := map[string][]uint64{
		"one behind the other": spread(0, n, 1),
		"by 65":                spread(1<<63-1<<20, n, 65),
		"far apart":            spread(3, n, 0x9e37_79b9_7f4a_7c15),
	}
	for name, l := range lists {
		x := newTrie(t, api.MaxCap)
		nodes := map[beginning]int{}
		for _, k := range l {
			for _, b := range beginnings(k) {
				nodes[b]++
			}
		}
		same(t, x.Each(shuffled(l, 1)...), n, "Each", name)
		same(t, x.Used(), len(nodes), "Used", name)
		want := slices.Sorted(slices.Values(l))
		list(t, slices.Collect(x.All()), want, "All", name)
		for i, k := range want {
			same(t, x.Rank(k), i, "Rank", k)
			same(t, find(x.Select(i)), found{k, true}, "Select", i)
			if i > 0 {
				same(t, find(x.Next(want[i-1]+1)), found{k, true}, "Next", name)
				same(t, find(x.Prev(k-1)), found{want[i-1], true}, "Prev", name)
			}
		}
		for i, k := range shuffled(l, 2) {
			same(t, x.Delete(k), api.OK, "Delete", k)
			for _, b := range beginnings(k) {
				if nodes[b]--; nodes[b] == 0 {
					delete(nodes, b)
				}
			}
			same(t, x.Len(), n-i-1, "Len", name)
			same(t, x.Used(), len(nodes), "Used", name)
		}
	}
}

func TestScripts(t *testing.T) {
	for n, limit := range []int{0, 11, 12, 25, 60, 150, 400, 1000, api.MaxCap} {
		for k, keys := range [][]uint64{mixed(5, 1), few(), mixed(40, 2), spread(250, 30, 1), append(bits(), 0, greatest), mixed(200, 3)} {
			script(t, limit, keys, uint64(100*n+k))
		}
	}
}

// script tells a trie and a model the same things, and holds what each call answers, and what is told behind each.
func script(t *testing.T, limit int, keys []uint64, seed uint64) {
	t.Helper()
	number := numbers(seed)
	h := hold(t, limit)
	for i := range 1500 {
		k := keys[number(len(keys))]
		near := about(k)[number(67)]
		switch do(number, i/300%2 == 0) {
		case 'i':
			h.insert(k)
		case 'd':
			h.delete(k)
		case 'e':
			from := number(len(keys))
			h.each(keys[from:min(len(keys), from+number(9))]...)
		case 'c':
			h.clear()
		case 'a':
			h.asked(k)
			h.asked(near)
		case 's':
			h.pick(number(len(keys)+2) - 1)
			h.rank(near)
		case 'm':
			h.min()
			h.max()
		}
		if i%50 == 0 {
			h.all()
		}
	}
	h.whole()
}

// do tells which call is next; whether there are more of insert or of delete makes tries grow and fall.
func do(number func(int) int, grow bool) rune {
	n := number(20)
	switch {
	case n == 0 && number(30) == 0:
		return 'c'
	case n < 3:
		return 'm'
	case n < 6:
		return 's'
	case n < 10:
		return 'a'
	case n == 10 && number(4) == 0:
		return 'e'
	case n < 17 == grow:
		return 'i'
	}
	return 'd'
}

// TestOtherWays: what is told hangs on the keys, not on how the trie came to have them.
func TestOtherWays(t *testing.T) {
	l := mixed(120, 6)
	a, b := filled(t, api.MaxCap, l), filled(t, api.MaxCap, spread(1, 90, 1<<20+1))
	b.each(reversed(l)...)
	for _, k := range spread(1, 90, 1<<20+1) {
		same(t, b.delete(k), api.OK, "Delete", k)
	}
	list(t, b.all(), a.all(), "All")
	same(t, maps.Equal(a.m.nodes, b.m.nodes), true, "nodes")
	for _, k := range append(spread(0, 200, 0x0123_4567_89ab_cdef), l...) {
		same(t, find(a.x.Next(k)), find(b.x.Next(k)), "Next", k)
		same(t, find(a.x.Prev(k)), find(b.x.Prev(k)), "Prev", k)
		same(t, a.x.Rank(k), b.x.Rank(k), "Rank", k)
	}
	same(t, a.x.Used(), b.x.Used(), "Used")
}
