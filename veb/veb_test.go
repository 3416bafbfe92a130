package veb_test

import (
	"iter"
	"math"
	"slices"
	"testing"

	"stepstone/api"
	"stepstone/count"
	"stepstone/veb"
)

const greatest = math.MaxUint64

// What the document says that operations take at most; unbound is of those of which it says nothing.
const (
	hasSteps  = 9
	nearSteps = 21
	endSteps  = 1
	unbound   = math.MaxInt
)

// same calls Helper where it fails alone, as others below that are called very often: it is slow.
func same[T comparable](t *testing.T, got, want T, what string, about ...any) {
	if got != want {
		t.Helper()
		t.Fatalf("%s %v: %v, not %v", what, about, got, want)
	}
}

// list holds lists against each other; long ones aren't told.
func list(t *testing.T, got, want []uint64, what string, about ...any) {
	if !slices.Equal(got, want) {
		t.Helper()
		t.Fatalf("%s %v: %v (%d), not %v (%d)", what, about, got[:min(len(got), 40)], len(got), want[:min(len(want), 40)], len(want))
	}
}

// found is what a call answers that may find nothing.
type found struct {
	key uint64
	ok  bool
}

func find(k uint64, ok bool) found { return found{k, ok} }

// steps is what a meter tells: Taken, Reads, Calls, Peak, Starts.
type steps [5]int

func tell(m *count.Meter) steps {
	return steps{m.Taken(), m.Reads(), m.Calls(), m.Peak(), m.Starts()}
}

// numbers answers a function that tells numbers below n, on and on, by the seed.
func numbers(seed uint64) func(n int) int {
	return func(n int) int {
		seed = seed*6364136223846793005 + 1442695040888963407
		return int(seed >> 33 % uint64(n))
	}
}

func shuffled(l []uint64, seed uint64) []uint64 {
	number, r := numbers(seed), slices.Clone(l)
	for i := range r {
		j := i + number(len(r)-i)
		r[i], r[j] = r[j], r[i]
	}
	return r
}

func reversed(l []uint64) []uint64 {
	r := slices.Clone(l)
	slices.Reverse(r)
	return r
}

func rising(l []uint64) []uint64 { return slices.Sorted(slices.Values(l)) }

// shape is how many nodes there are, and how many of them below one another at most.
type shape struct {
	nodes, depth int
}

// with is s with nodes below its first one.
func (s shape) with(o shape) shape {
	return shape{s.nodes + o.nodes, max(s.depth, o.depth+1)}
}

// shapeOf is the document's words: of the node over so many bits that has these keys, which rise.
func shapeOf(keys []uint64, bits int) shape {
	if len(keys) == 0 {
		return shape{}
	}
	s := shape{1, 1}
	if bits == 4 || len(keys) < 3 {
		return s
	}
	half := bits / 2
	var highs, lows []uint64
	for _, k := range keys[1 : len(keys)-1] {
		if high := k >> half; len(highs) == 0 || high != highs[len(highs)-1] {
			s = s.with(shapeOf(lows, half))
			highs, lows = append(highs, high), nil
		}
		lows = append(lows, k&(1<<half-1))
	}
	return s.with(shapeOf(lows, half)).with(shapeOf(highs, half))
}

// model is a tree as the document's words tell it: a plain rising list, and the shape that it has.
type model struct {
	limit int
	keys  []uint64
	shape
}

func (m *model) has(k uint64) bool {
	_, ok := slices.BinarySearch(m.keys, k)
	return ok
}

// more is how many nodes k would need.
func (m *model) more(k uint64) int {
	i, ok := slices.BinarySearch(m.keys, k)
	if ok {
		return 0
	}
	return shapeOf(slices.Insert(slices.Clone(m.keys), i, k), 64).nodes - m.nodes
}

func (m *model) insert(k uint64) api.Errno {
	i, ok := slices.BinarySearch(m.keys, k)
	if ok {
		return api.ErrExists
	}
	keys := slices.Insert(slices.Clone(m.keys), i, k)
	s := shapeOf(keys, 64)
	if s.nodes > m.limit {
		return api.ErrFull
	}
	m.keys, m.shape = keys, s
	return api.OK
}

func (m *model) delete(k uint64) api.Errno {
	i, ok := slices.BinarySearch(m.keys, k)
	if !ok {
		return api.ErrNone
	}
	m.keys = slices.Delete(m.keys, i, i+1)
	m.shape = shapeOf(m.keys, 64)
	return api.OK
}

// at is the key at that place of the list.
func (m *model) at(i int) found {
	if i < 0 || i >= len(m.keys) {
		return found{}
	}
	return found{m.keys[i], true}
}

func (m *model) next(k uint64) found {
	i, _ := slices.BinarySearch(m.keys, k)
	return m.at(i)
}

func (m *model) prev(k uint64) found {
	i, ok := slices.BinarySearch(m.keys, k)
	if ok {
		return m.at(i)
	}
	return m.at(i - 1)
}

// each tells how many of l were new ahead of the first that there was no room for.
func (m *model) each(l []uint64) int {
	n := 0
	for _, k := range l {
		switch m.insert(k) {
		case api.OK:
			n++
		case api.ErrFull:
			return n
		}
	}
	return n
}

// held is a tree that is held against a model behind each call.
type held struct {
	t *testing.T
	x *veb.VEB
	m *model
}

// seeds are some that change no answer.
func seeds() []uint64 { return []uint64{0, 1, 7, 1 << 63, greatest} }

func newTree(t *testing.T, seed uint64, limit int) *veb.VEB {
	t.Helper()
	x, e := veb.New(seed, limit)
	if e != api.OK || x == nil {
		t.Fatalf("New %d, %d: %v, %v", seed, limit, x, e)
	}
	return x
}

func hold(t *testing.T, seed uint64, limit int) held {
	t.Helper()
	return held{t, newTree(t, seed, limit), &model{limit: limit}}
}

// filled has the keys, inserted in this order.
func filled(t *testing.T, limit int, keys []uint64) held {
	t.Helper()
	h := hold(t, uint64(limit)*31+uint64(len(keys)), limit)
	for _, k := range keys {
		same(t, h.insert(k), api.OK, "Insert", k, "of", keys)
	}
	return h
}

// operation holds that f begins one operation, which takes at most so many steps.
func (h held) operation(most int, f func(), what string, about ...any) {
	starts, sum := h.x.Starts(), count.Sum(h.x.Meter)
	f()
	taken := h.x.Taken()
	began, all := h.x.Starts()-starts, count.Sum(h.x.Meter)-sum
	if taken > most || began != 1 || all != taken {
		h.t.Helper()
		h.t.Fatalf("%s %v: %d steps (in all: %d), at most %d; it began %d operations", what, about, taken, all, most, began)
	}
	h.behind(what, about...)
}

// apart holds that f begins no operation.
func (h held) apart(f func(), what string, about ...any) {
	starts := h.x.Starts()
	f()
	if began := h.x.Starts() - starts; began != 0 {
		h.t.Helper()
		h.t.Fatalf("%s %v began %d operations", what, about, began)
	}
}

// sizes is Len, Used, Limit, Depth, and how many operations were begun by asking for them.
type sizes [5]int

// behind holds what is told behind every call.
func (h held) behind(what string, about ...any) {
	starts := h.x.Starts()
	got := sizes{h.x.Len(), h.x.Used(), h.x.Limit(), h.x.Depth(), h.x.Starts() - starts}
	want := sizes{len(h.m.keys), h.m.nodes, h.m.limit, h.m.depth, 0}
	if got != want || h.x.Used() > 5*len(h.m.keys)+1 {
		h.t.Helper()
		h.t.Fatalf("Len, Used, Limit, Depth, operations behind %s %v: %v, not %v", what, about, got, want)
	}
}

func (h held) insert(k uint64) api.Errno {
	h.t.Helper()
	used, want := h.x.Used(), h.m.insert(k)
	h.operation(unbound, func() { same(h.t, h.x.Insert(k), want, "Insert", k) }, "Insert", k)
	if n := h.x.Used() - used; n > 5 {
		h.t.Fatalf("Insert %d: %d nodes more", k, n)
	}
	return want
}

func (h held) delete(k uint64) api.Errno {
	h.t.Helper()
	want := h.m.delete(k)
	h.operation(unbound, func() { same(h.t, h.x.Delete(k), want, "Delete", k) }, "Delete", k)
	return want
}

func (h held) has(k uint64) bool {
	h.t.Helper()
	want := h.m.has(k)
	h.operation(hasSteps, func() { same(h.t, h.x.Has(k), want, "Has", k) }, "Has", k)
	return want
}

func (h held) next(k uint64) found {
	h.t.Helper()
	want := h.m.next(k)
	h.operation(nearSteps, func() { same(h.t, find(h.x.Next(k)), want, "Next", k) }, "Next", k)
	return want
}

func (h held) prev(k uint64) found {
	h.t.Helper()
	want := h.m.prev(k)
	h.operation(nearSteps, func() { same(h.t, find(h.x.Prev(k)), want, "Prev", k) }, "Prev", k)
	return want
}

func (h held) min() found {
	h.t.Helper()
	want := h.m.at(0)
	h.operation(endSteps, func() { same(h.t, find(h.x.Min()), want, "Min") }, "Min")
	return want
}

func (h held) max() found {
	h.t.Helper()
	want := h.m.at(len(h.m.keys) - 1)
	h.operation(endSteps, func() { same(h.t, find(h.x.Max()), want, "Max") }, "Max")
	return want
}

func (h held) each(l ...uint64) int {
	h.t.Helper()
	handed := slices.Clone(l)
	want := h.m.each(l)
	same(h.t, h.x.Each(l...), want, "Each", l)
	list(h.t, l, handed, "what was handed to Each")
	h.behind("Each", l)
	return want
}

func (h held) all() []uint64 {
	h.t.Helper()
	h.apart(func() { list(h.t, slices.Collect(h.x.All()), h.m.keys, "All") }, "All")
	h.behind("All")
	return h.m.keys
}

func (h held) clear() {
	h.t.Helper()
	h.m.keys, h.m.shape = nil, shape{}
	h.apart(func() { h.x.Clear() }, "Clear")
	h.behind("Clear")
}

// about are k, the keys beside it, and those that part from it in one bit.
func about(k uint64) []uint64 {
	l := []uint64{k - 1, k, k + 1}
	for i := range 64 {
		l = append(l, k^1<<i)
	}
	return l
}

// asked holds all that the tree answers about k.
func (h held) asked(k uint64) {
	h.t.Helper()
	h.has(k)
	h.next(k)
	h.prev(k)
}

// whole holds all that the tree tells.
func (h held) whole() {
	h.t.Helper()
	h.all()
	h.min()
	h.max()
	for _, k := range []uint64{0, 1, 1<<32 - 1, 1 << 32, 1<<63 - 1, 1 << 63, greatest - 1, greatest} {
		h.asked(k)
	}
	for _, k := range h.m.keys {
		h.asked(k - 1)
		h.asked(k)
		h.asked(k + 1)
	}
}

// closely is whole, with keys asked that part from those in it in each bit.
func (h held) closely() {
	h.t.Helper()
	h.whole()
	for _, k := range h.m.keys {
		for _, a := range about(k) {
			h.asked(a)
		}
	}
}

// stays holds that f changes nothing that the tree tells.
func (h held) stays(f func()) {
	h.t.Helper()
	keys, was := slices.Clone(h.m.keys), h.m.shape
	f()
	list(h.t, h.m.keys, keys, "keys")
	same(h.t, h.m.shape, was, "shape")
	h.whole()
}

// bits is one key for each bit, with that bit alone.
func bits() []uint64 {
	var l []uint64
	for i := range 64 {
		l = append(l, 1<<i)
	}
	return l
}

// spread is n keys that are by apart, from from on.
func spread(from uint64, n int, by uint64) []uint64 {
	var l []uint64
	for i := range uint64(n) {
		l = append(l, from+i*by)
	}
	return l
}

// mixed is n keys here and there: their digits of four bits are seldom others than 0, 1 and 15, so that many share one or the other half of their bits.
func mixed(n int, seed uint64) []uint64 {
	number := numbers(seed)
	digits := []uint64{0, 0, 0, 0, 1, 1, 15, 15, 8}
	var l []uint64
	for len(l) < n {
		k := uint64(0)
		for range 16 {
			k = k<<4 | digits[number(len(digits))]
		}
		if number(3) == 0 {
			k >>= 4 * number(16)
		}
		if !slices.Contains(l, k) {
			l = append(l, k)
		}
	}
	return l
}

// deep is keys of so many bits, and one to ask for: whichever node is gone into, its cluster of this one's beginning is there, but has nothing further on; so the most steps are taken.
func deep(bits int) ([]uint64, uint64) {
	if bits == 4 {
		return []uint64{3, 5}, 4
	}
	half := bits / 2
	highs, ask := deep(half)
	low := uint64(1) << (half - 2)
	keys := []uint64{0}
	for _, h := range rising(append(highs, ask-1)) {
		if k := h<<half | low; k != keys[len(keys)-1] {
			keys = append(keys, k)
		}
	}
	return append(keys, greatest>>(64-bits)), (ask-1)<<half | 2*low
}

// wide is keys of so many bits, and one more for which a node is new on each level, and two on the last.
func wide(bits int) ([]uint64, uint64) {
	if bits == 8 {
		return []uint64{0x20, 0x60}, 0x40
	}
	half := bits / 2
	highs, more := wide(half)
	keys := []uint64{0}
	for _, h := range highs {
		keys = append(keys, h<<half|1)
	}
	return append(keys, greatest>>(64-bits)), more<<half | 1
}

// inverted is keys the other way round: what was above is below.
func inverted(l []uint64) []uint64 {
	var r []uint64
	for _, k := range l {
		r = append(r, ^k)
	}
	return r
}

func samples() map[string][]uint64 {
	deepest, _ := deep(64)
	widest, more := wide(64)
	return map[string][]uint64{
		"none":                       nil,
		"the least":                  {0},
		"the greatest":               {greatest},
		"both ends":                  {0, greatest},
		"both ends and one":          {0, 1 << 40, greatest},
		"beside the ends":            {0, 1, greatest - 1, greatest},
		"the example":                {1, 2, 3},
		"the upper half alone":       spread(7, 20, 1<<32),
		"the lower half alone":       spread(1<<40, 20, 1<<25),
		"the last four bits alone":   spread(0x1234_5678_9abc_def0, 16, 1),
		"over the edge of a word":    spread(0x1234_5678_9abc_dff8, 16, 1),
		"over the edge of a cluster": spread(0x1234_5678_ffff_fff0, 40, 1),
		"the first four bits":        spread(0, 16, 1<<60),
		"each bit alone":             bits(),
		"each half":                  {0, 1 << 4, 1 << 8, 1 << 16, 1 << 32, 1<<4 | 1<<8, 1<<8 | 1<<16, 1<<16 | 1<<32, 1<<33 | 1<<9, 1<<33 | 1<<17, greatest},
		"one behind the other":       spread(1<<63-50, 100, 1),
		"by sevens":                  spread(0, 90, 7),
		"by 65":                      spread(3, 80, 65),
		"far apart":                  spread(3, 90, 0x9e37_79b9_7f4a_7c15),
		"here and there":             mixed(80, 5),
		"deep":                       deepest,
		"deep the other way round":   inverted(deepest),
		"wide":                       append(widest, more),
	}
}

// wrongLimits are those that there can't be.
func wrongLimits() []int {
	return []int{math.MinInt, math.MinInt + 1, -1 << 32, -api.MaxCap, -5, -2, -1, api.MaxCap + 1, api.MaxCap + 2, 2 * api.MaxCap, 1 << 32, math.MaxInt - 1, math.MaxInt}
}

// P12.1

func TestNew(t *testing.T) {
	for _, seed := range seeds() {
		for _, limit := range []int{0, 1, 2, 5, 6, 63, 4096, api.MaxCap - 1, api.MaxCap} {
			h := hold(t, seed, limit)
			same(t, tell(h.x.Meter), steps{}, "steps at first")
			h.behind("New", seed, limit)
			h.whole()
		}
	}
}

func TestLimitsThereCantBe(t *testing.T) {
	for _, seed := range seeds() {
		for _, limit := range wrongLimits() {
			x, e := veb.New(seed, limit)
			same(t, e, api.ErrArg, "New", seed, limit)
			same(t, x, nil, "New", seed, limit)
		}
	}
}

// TestNodes are counted by hand here, so that the model is held against the document, too.
func TestNodes(t *testing.T) {
	for _, c := range []struct {
		keys         []uint64
		nodes, depth int
	}{
		{nil, 0, 0},
		{[]uint64{5}, 1, 1},
		{[]uint64{1, 2}, 1, 1},
		{[]uint64{0, greatest}, 1, 1},
		{[]uint64{1, 2, 3}, 3, 2},
		{[]uint64{0, 1 << 40, greatest}, 3, 2},
		{spread(1, 4, 1), 3, 2},
		{spread(1, 5, 1), 5, 3},
		{spread(1, 6, 1), 5, 3},
		{spread(1, 7, 1), 7, 4},
		{spread(1, 8, 1), 7, 4},
		{spread(1, 9, 1), 9, 5},
		{spread(0, 16, 1), 9, 5},
		{spread(0, 20, 1), 9, 5},  // the word has 4 to 15
		{spread(0, 21, 1), 10, 5}, // another word, with 16
		{spread(0, 36, 1), 10, 5},
		{spread(0, 37, 1), 11, 5},
		{[]uint64{0, 1 << 32, 2 << 32, greatest}, 4, 2},
		{[]uint64{0, 1 << 32, 1<<32 | 9, greatest}, 3, 2},
		{[]uint64{0, 1 << 32, 2 << 32, 3 << 32, greatest}, 7, 3},
		{[]uint64{0, 1 << 32, 2 << 32, 9 << 48, greatest}, 7, 3},
		{[]uint64{0, 1 << 32, 2 << 32, 3 << 32, 4 << 32, greatest}, 8, 3},
		{[]uint64{0, 1 << 32, 2 << 32, 9 << 48, 11 << 48, greatest}, 9, 3},
	} {
		for _, order := range [][]uint64{c.keys, reversed(c.keys), shuffled(c.keys, 4)} {
			h := filled(t, c.nodes, order)
			same(t, h.x.Used(), c.nodes, "Used", order)
			same(t, h.x.Depth(), c.depth, "Depth", order)
			h.whole()
			o := newTree(t, 3, max(c.nodes-1, 0))
			same(t, o.Each(order...) < len(order), c.nodes > 0, "Each", order, "with one node less")
		}
	}
}

func TestSamples(t *testing.T) {
	for name, l := range samples() {
		for i, seed := range seeds() {
			h := hold(t, seed, api.MaxCap)
			for _, k := range [][]uint64{l, rising(l), reversed(l), shuffled(l, 7), shuffled(l, 8)}[i] {
				same(t, h.insert(k), api.OK, "Insert", k)
			}
			list(t, h.all(), rising(l), name)
			h.whole()
			for _, k := range l {
				same(t, h.insert(k), api.ErrExists, "Insert", k)
			}
			h.all()
		}
	}
}

func TestSamplesClosely(t *testing.T) {
	for _, l := range samples() {
		h := filled(t, api.MaxCap, l[:min(len(l), 30)])
		h.closely()
		for _, k := range l[:len(h.m.keys)/2] {
			same(t, h.delete(k), api.OK, "Delete", k)
		}
		h.closely()
	}
}

// TestSamplesGrowAndFall holds everything behind each call.
func TestSamplesGrowAndFall(t *testing.T) {
	for _, l := range samples() {
		l = l[:min(len(l), 30)]
		h := hold(t, 11, api.MaxCap)
		for _, k := range shuffled(l, 3) {
			same(t, h.insert(k), api.OK, "Insert", k)
			h.whole()
		}
		for _, k := range shuffled(l, 4) {
			same(t, h.delete(k), api.OK, "Delete", k)
			h.whole()
		}
		same(t, h.x.Used(), 0, "Used at last")
	}
}

// few are keys that part from each other in the upper halves, in the lower ones, and in the last four bits.
func few() []uint64 {
	return []uint64{0x10, 0x11, 0x30, 0x1_0010, 0x5_0000_0010, 0x5_0000_0011, 0x7000_0005_0000_0010, 0x7000_0005_0001_0010}
}

// TestAllOfFew: whatever choice of some keys there is, in whatever way it came about.
func TestAllOfFew(t *testing.T) {
	l := few()
	for choice := range 1 << len(l) {
		h := filled(t, api.MaxCap, l)
		var rest []uint64
		for i, k := range l {
			if choice>>i&1 == 0 {
				same(t, h.delete(k), api.OK, "Delete", k)
			} else {
				rest = append(rest, k)
			}
		}
		h.whole()
		o := filled(t, api.MaxCap, rest)
		same(t, h.x.Used(), o.x.Used(), "Used of", rest)
		same(t, h.x.Depth(), o.x.Depth(), "Depth of", rest)
		o.whole()
	}
}

// TestAllOfAWord: whatever choice of a few of the last bits there is, below nodes of all levels and in the first one.
func TestAllOfAWord(t *testing.T) {
	around := append(spread(0, 5, 1), spread(greatest-4, 5, 1)...)
	for choice := range 1 << 9 {
		near := hold(t, 2, api.MaxCap)
		far := filled(t, api.MaxCap, around)
		for i := range 9 {
			if choice>>i&1 != 0 {
				near.insert(uint64(2*i + 20))
				far.insert(uint64(2*i + 20))
			}
		}
		near.all()
		far.all()
		for k := uint64(17); k < 40; k++ {
			near.asked(k)
			far.asked(k)
		}
		for i := range 9 {
			near.delete(uint64(2*i + 20))
			far.delete(uint64(2*i + 20))
		}
		list(t, far.all(), around, "All at last")
		same(t, near.x.Used(), 0, "Used at last")
	}
}

// orders hands on each order of l.
func orders(l []uint64, f func([]uint64)) {
	l = slices.Clone(l)
	var from func(n int)
	from = func(n int) {
		if n == len(l) {
			f(l)
		}
		for i := n; i < len(l); i++ {
			l[n], l[i] = l[i], l[n]
			from(n + 1)
			l[n], l[i] = l[i], l[n]
		}
	}
	from(0)
}

// TestAllOrders: in whatever orders keys come and go, nothing is left, and nothing used, and there is room again.
func TestAllOrders(t *testing.T) {
	for _, l := range [][]uint64{{0, 1, greatest}, few()[:4], few()[4:], {5, 9, 6, 7}, {0, 1 << 32, 2 << 32, greatest}, {1 << 60, 1<<60 - 1, 1 << 36, 1 << 52}} {
		used := filled(t, api.MaxCap, l).m.nodes
		orders(l, func(in []uint64) {
			orders(l, func(out []uint64) {
				// The limit is what they need: what stayed behind would be in the way.
				h := filled(t, used, in)
				same(t, h.x.Used(), used, "Used of", in)
				for _, k := range out {
					same(t, h.delete(k), api.OK, "Delete", k, "of", out)
					same(t, h.delete(k), api.ErrNone, "Delete", k, "of", out)
					h.all()
				}
				same(t, h.x.Len(), 0, "Len at last")
				same(t, h.x.Used(), 0, "Used at last")
				same(t, h.each(in...), len(in), "Each", in)
			})
		})
	}
}

// TestAllOrdersOfMore: six keys come in each order there is, and go in another.
func TestAllOrdersOfMore(t *testing.T) {
	for _, l := range [][]uint64{few()[1:7], spread(9, 6, 1), {0, 3 << 32, 3<<32 | 1, 3<<32 | 1<<16, 4 << 48, greatest}} {
		used, seed := filled(t, api.MaxCap, l).m.nodes, uint64(0)
		orders(l, func(in []uint64) {
			h := filled(t, used, in)
			h.all()
			seed++
			for _, k := range shuffled(in, seed) {
				same(t, h.delete(k), api.OK, "Delete", k)
				h.asked(k)
			}
			same(t, h.x.Used(), 0, "Used at last")
		})
	}
}

func TestManyOrders(t *testing.T) {
	for seed, l := range [][]uint64{spread(0, 200, 1), spread(1<<40, 150, 1<<17), mixed(200, 9), bits(), spread(greatest-70, 71, 1), spread(5, 200, 1<<32+1), spread(9, 150, 1<<48)} {
		used := filled(t, api.MaxCap, l).m.nodes
		h := hold(t, uint64(seed), used)
		for _, order := range [][]uint64{l, rising(l), reversed(rising(l)), shuffled(l, uint64(seed)), shuffled(l, uint64(seed)+50)} {
			same(t, h.each(shuffled(l, uint64(seed)+99)...), len(l), "Each")
			same(t, h.x.Used(), used, "Used")
			for i, k := range order {
				same(t, h.delete(k), api.OK, "Delete", k)
				if i%8 == 0 {
					h.all()
					h.asked(k)
					h.min()
					h.max()
				}
			}
			h.whole()
			same(t, h.x.Used(), 0, "Used at last")
		}
	}
}

// TestEachBit: keys beside each other that part in one bit share a cluster, if it is one of the lower half, else they have two.
func TestEachBit(t *testing.T) {
	for i := range 64 {
		a := 0x5a5a_a5a5_3c3c_c3c3 &^ (uint64(1) << i)
		b := a | 1<<i
		used := 3
		if i >= 32 {
			used = 4
		}
		for _, l := range [][]uint64{{0, a, b, greatest}, {b, greatest, a, 0}} {
			h := filled(t, used, l)
			same(t, h.x.Used(), used, "Used", l)
			same(t, h.x.Depth(), 2, "Depth", l)
			h.closely()
			same(t, find(h.x.Next(a+1)), found{b, true}, "Next", a+1)
			same(t, find(h.x.Prev(b-1)), found{a, true}, "Prev", b-1)
			same(t, h.delete(a), api.OK, "Delete", l)
			same(t, h.x.Used(), 3, "Used", l)
			h.closely()
			same(t, h.delete(b), api.OK, "Delete", l)
			same(t, h.x.Used(), 1, "Used", l)
		}
		pair := filled(t, 1, []uint64{a, b})
		same(t, pair.x.Used(), 1, "Used of two")
		pair.closely()
	}
}

// TestEachBitFurtherDown: the same, below so many keys that lie close around them.
func TestEachBitFurtherDown(t *testing.T) {
	for i := range 64 {
		a := 0x5a5a_a5a5_3c3c_c3c4 &^ (uint64(1) << i)
		b := a | 1<<i
		l := append(append(spread(a-4, 9, 1), spread(b-4, 9, 1)...), 0, greatest)
		slices.Sort(l)
		l = slices.Compact(l)
		h := filled(t, api.MaxCap, shuffled(l, uint64(i)))
		h.whole()
		for _, k := range append(about(a), about(b)...) {
			h.asked(k)
		}
		for _, k := range shuffled(l, uint64(i)+1) {
			same(t, h.delete(k), api.OK, "Delete", k)
			h.asked(a)
			h.asked(b)
		}
		same(t, h.x.Used(), 0, "Used at last")
	}
}

// TestTheEnds: a key below the least or above the greatest one takes its place, and that one goes further down; when an end goes, the key beside it takes its place.
func TestTheEnds(t *testing.T) {
	h := hold(t, 5, api.MaxCap)
	for i := range uint64(60) {
		same(t, h.insert(1<<40-i*i*i*9-1), api.OK, "Insert")
		h.min()
		same(t, h.insert(1<<40+i*i*i*7), api.OK, "Insert")
		h.max()
	}
	h.whole()
	for len(h.m.keys) > 3 {
		least := h.m.keys[0]
		same(t, h.delete(least), api.OK, "Delete", least)
		same(t, h.next(least), h.min(), "Next", least)
		same(t, h.prev(least), found{}, "Prev", least)
		most := h.m.keys[len(h.m.keys)-1]
		same(t, h.delete(most), api.OK, "Delete", most)
		same(t, h.prev(most), h.max(), "Prev", most)
		same(t, h.next(most), found{}, "Next", most)
	}
	h.whole()
}

func TestTheFirstAndTheLastKey(t *testing.T) {
	h := hold(t, 6, 3)
	none := found{}
	same(t, h.insert(greatest), api.OK, "Insert")
	same(t, h.next(0), found{greatest, true}, "Next")
	same(t, h.next(greatest), found{greatest, true}, "Next")
	same(t, h.prev(greatest-1), none, "Prev")
	same(t, h.insert(0), api.OK, "Insert")
	same(t, h.prev(0), found{0, true}, "Prev")
	same(t, h.next(1), found{greatest, true}, "Next")
	same(t, h.prev(greatest-1), found{0, true}, "Prev")
	same(t, h.min(), found{0, true}, "Min")
	same(t, h.max(), found{greatest, true}, "Max")
	same(t, h.x.Used(), 1, "Used")
	same(t, h.insert(1), api.OK, "Insert")
	same(t, h.prev(greatest-1), found{1, true}, "Prev")
	same(t, h.next(2), found{greatest, true}, "Next")
	same(t, h.delete(0), api.OK, "Delete")
	same(t, h.min(), found{1, true}, "Min")
	same(t, h.delete(greatest), api.OK, "Delete")
	same(t, h.max(), found{1, true}, "Max")
	same(t, h.next(2), none, "Next")
	same(t, h.prev(0), none, "Prev")
	same(t, h.delete(1), api.OK, "Delete")
	same(t, h.min(), none, "Min")
	same(t, h.max(), none, "Max")
	same(t, h.x.Used(), 0, "Used")
}

// TestEmpty: of none there is nothing to find and nothing to delete, at first and behind the last key.
func TestEmpty(t *testing.T) {
	for _, limit := range []int{0, 1, 2, 50, api.MaxCap} {
		h := hold(t, 8, limit)
		for range 3 {
			for _, k := range append(about(0), about(greatest)...) {
				same(t, h.delete(k), api.ErrNone, "Delete", k)
				same(t, h.has(k), false, "Has", k)
				same(t, h.next(k), found{}, "Next", k)
				same(t, h.prev(k), found{}, "Prev", k)
			}
			h.whole()
			if h.insert(1<<63) == api.OK {
				same(t, h.delete(1<<63), api.OK, "Delete")
			}
		}
	}
}

// TestDeleteOfOthers: of a key that isn't in it nothing goes, how near it may be.
func TestDeleteOfOthers(t *testing.T) {
	for _, l := range [][]uint64{{0}, {5}, {0x0123_4567_89ab_cdef, greatest}, {0, 9, greatest}, few(), spread(100, 30, 3)} {
		h := filled(t, 90, l)
		for _, k := range l {
			for _, o := range about(k) {
				if !slices.Contains(l, o) {
					same(t, h.delete(o), api.ErrNone, "Delete", o)
				}
			}
			same(t, h.has(k), true, "Has", k)
		}
		h.whole()
		for _, k := range l {
			same(t, h.insert(k), api.ErrExists, "Insert", k)
			same(t, h.delete(k), api.OK, "Delete", k)
			same(t, h.delete(k), api.ErrNone, "Delete", k)
		}
		h.whole()
	}
}

// TestLimitOfNone: without room for a node there is never a key.
func TestLimitOfNone(t *testing.T) {
	h := hold(t, 9, 0)
	for _, k := range append(about(0), about(0x0123_4567_89ab_cdef)...) {
		same(t, h.insert(k), api.ErrFull, "Insert", k)
		same(t, h.delete(k), api.ErrNone, "Delete", k)
		same(t, h.each(k, k), 0, "Each", k)
		h.whole()
	}
}

// TestLimitOfOne: one node has two keys.
func TestLimitOfOne(t *testing.T) {
	for _, limit := range []int{1, 2} {
		for _, k := range []uint64{0, 9, 1 << 32, 1 << 63, greatest - 1} {
			h := hold(t, k, limit)
			same(t, h.insert(k), api.OK, "Insert", k)
			same(t, h.insert(k+1), api.OK, "Insert", k+1)
			for _, o := range about(k) {
				if o != k && o != k+1 {
					h.stays(func() { same(t, h.insert(o), api.ErrFull, "Insert", o) })
				}
			}
			same(t, h.insert(k), api.ErrExists, "Insert", k)
			same(t, h.insert(k+1), api.ErrExists, "Insert", k+1)
			same(t, h.delete(k), api.OK, "Delete", k)
			same(t, h.insert(k^1<<40), api.OK, "Insert")
			h.closely()
		}
	}
}

// TestFull: whatever the limit is, just what is above it is refused, and when keys go there is room again.
func TestFull(t *testing.T) {
	deepest, _ := deep(64)
	for _, l := range [][]uint64{bits(), spread(0, 16, 1<<60), mixed(60, 2), spread(60, 60, 1), deepest, {5, 9, greatest, 1 << 63, 1 << 62, 7}} {
		for limit := range 70 {
			h := hold(t, uint64(limit), limit)
			for _, k := range l {
				h.insert(k)
			}
			h.all()
			for _, k := range l {
				h.delete(k)
				h.insert(l[0])
				h.insert(k)
			}
			h.whole()
		}
	}
}

// TestFullChangesNothing, to the last node: one less is too few, and what is there already isn't kept out.
func TestFullChangesNothing(t *testing.T) {
	widest, more := wide(64)
	for _, l := range [][]uint64{{5, 9, 7, 6, 8, 10, 11}, few(), bits()[20:50], spread(7, 30, 1<<33), append(widest, more), mixed(30, 4)} {
		for n := 1; n < len(l); n++ {
			o := filled(t, api.MaxCap, l[:n])
			used, more := o.m.nodes, o.m.more(l[n])
			for limit := used; limit < used+more; limit++ {
				h := filled(t, limit, l[:n])
				h.stays(func() { same(t, h.insert(l[n]), api.ErrFull, "Insert", l[n], "limit", limit) })
				h.stays(func() { same(t, h.each(l[n], l[n]), 0, "Each", l[n], "limit", limit) })
				for _, k := range l[:n] {
					same(t, h.insert(k), api.ErrExists, "Insert", k, "limit", limit)
				}
				same(t, h.delete(l[n]), api.ErrNone, "Delete", l[n])
				h.whole()
			}
			h := filled(t, used+more, l[:n+1])
			same(t, h.x.Used(), used+more, "Used")
		}
	}
}

// TestFullInTheMiddle: a key that would put the least or the greatest one into a cluster there is no room for leaves both where they are.
func TestFullInTheMiddle(t *testing.T) {
	h := filled(t, 3, []uint64{1 << 32, 2 << 32, 3 << 32})
	for _, k := range []uint64{0, 1, 1<<32 - 1, 1<<32 + 1, 2<<32 - 1, 3<<32 + 1, greatest} {
		h.stays(func() { same(t, h.insert(k), api.ErrFull, "Insert", k) })
	}
	// It shares its cluster with the one in the middle.
	same(t, h.insert(2<<32|7), api.OK, "Insert")
	h.closely()
}

// TestRoomWithoutNodes: keys for which there are nodes already go into what is full.
func TestRoomWithoutNodes(t *testing.T) {
	for _, from := range []uint64{0x20, 0x1234_5678_9abc_de20, greatest - 63} {
		l := spread(from, 20, 1)
		h := hold(t, from, 9)
		same(t, h.each(l[0], l[1], l[2], l[3], l[19], l[18], l[17], l[16], l[9]), 9, "Each")
		same(t, h.x.Used(), 9, "Used")
		for _, k := range shuffled(l, from) {
			h.insert(k)
			same(t, h.x.Used(), 9, "Used")
		}
		same(t, h.x.Len(), 20, "Len")
		h.whole()
		// What is in the word would be more than its sixteen keys: above at once, below behind four more.
		same(t, h.insert(from+20), api.ErrFull, "Insert", from+20)
		same(t, h.each(from-1, from-2, from-3, from-4, from-5, from-6), 4, "Each")
		same(t, h.insert(from-5), api.ErrFull, "Insert", from-5)
		h.whole()
	}
}

func TestGreatestLimit(t *testing.T) {
	x := newTree(t, 1, api.MaxCap)
	l := spread(1<<40, 1<<19, 0x9e37_79b9_7f4a_7c15)
	n := x.Each(l...)
	same(t, n < len(l), true, "Each till it's full", n)
	keys := rising(l[:n])
	same(t, x.Used(), shapeOf(keys, 64).nodes, "Used")
	i, _ := slices.BinarySearch(keys, l[n])
	same(t, shapeOf(slices.Insert(slices.Clone(keys), i, l[n]), 64).nodes > api.MaxCap, true, "full of", l[n])
	same(t, x.Insert(l[n]), api.ErrFull, "Insert", l[n])
	same(t, x.Insert(l[0]), api.ErrExists, "Insert", l[0])
	for _, k := range l[:n] {
		if x.Used() == api.MaxCap {
			break
		}
		x.Insert(k + 1<<32) // mostly a cluster, and its beginning in a node that is there: one node
	}
	same(t, x.Used(), api.MaxCap, "Used, full")
	n = x.Len()
	same(t, x.Insert(l[n-5]^1<<62), api.ErrFull, "Insert, full")
	same(t, x.Insert(keys[n/2]), api.ErrExists, "Insert, full")
	same(t, x.Has(l[n-5]^1<<62), false, "Has")
	same(t, x.Len(), n, "Len, full")
	same(t, x.Used(), api.MaxCap, "Used, full")
	same(t, x.Depth(), 5, "Depth, full")
	x.Clear()
	same(t, x.Used()+x.Len()+x.Depth(), 0, "Used, Len, Depth behind Clear")
	same(t, x.Limit(), api.MaxCap, "Limit")
	same(t, x.Insert(greatest), api.OK, "Insert")
	list(t, slices.Collect(x.All()), []uint64{greatest}, "All")
}

func TestNextAndPrev(t *testing.T) {
	h := filled(t, api.MaxCap, []uint64{70, 5, 1 << 40, 9, 1 << 63})
	for k, want := range map[uint64]uint64{0: 5, 5: 5, 6: 9, 9: 9, 10: 70, 63: 70, 64: 70, 70: 70, 71: 1 << 40, 1<<40 - 1: 1 << 40, 1 << 40: 1 << 40, 1<<40 + 1: 1 << 63, 1<<63 - 1: 1 << 63, 1 << 63: 1 << 63} {
		same(t, find(h.x.Next(k)), found{want, true}, "Next", k)
	}
	for k, want := range map[uint64]uint64{5: 5, 8: 5, 9: 9, 69: 9, 70: 70, 127: 70, 128: 70, 1<<40 - 1: 70, 1 << 40: 1 << 40, 1<<63 - 1: 1 << 40, 1 << 63: 1 << 63, 1<<63 + 1: 1 << 63, greatest: 1 << 63} {
		same(t, find(h.x.Prev(k)), found{want, true}, "Prev", k)
	}
	for _, k := range []uint64{1<<63 + 1, 1<<63 + 64, greatest} {
		same(t, find(h.x.Next(k)), found{}, "Next", k)
	}
	for _, k := range []uint64{0, 1, 4} {
		same(t, find(h.x.Prev(k)), found{}, "Prev", k)
	}
}

func TestEach(t *testing.T) {
	h := hold(t, 3, 4)
	same(t, h.each(), 0, "Each of none")
	same(t, h.each([]uint64{}...), 0, "Each of none")
	same(t, h.each(5), 1, "Each of one")
	same(t, h.each(5), 0, "Each of what is there")
	same(t, h.each(9, 5, 9, 7, 7, 5), 2, "Each of some twice")
	// What is full ends it: 8 would need no node, but stands behind.
	same(t, h.each(5, 1<<63, 1<<63, 6, 1<<62, 8), 1, "Each till it's full")
	list(t, h.all(), []uint64{5, 7, 9, 1 << 63}, "All")
	same(t, h.x.Used(), 3, "Used")
	same(t, h.each(5, 9, 7, 1<<63), 0, "Each of what is there, full")
	same(t, h.each(8, 6), 0, "Each, full at once")
	same(t, h.each(1<<62, 1<<62, 7, 1<<61, 5), 1, "Each with room for one")
	h.whole()
	same(t, h.delete(1<<63), api.OK, "Delete")
	same(t, h.delete(1<<62), api.OK, "Delete")
	same(t, h.each(1<<62, 1<<62, 1<<63, 1<<61, 3), 2, "Each, with room again")
	h.whole()
}

func TestEachOfSamples(t *testing.T) {
	for _, l := range samples() {
		l = l[:min(len(l), 60)]
		twice := append(slices.Clone(l), l...)
		for _, limit := range []int{0, 1, 2, 3, 5, 20, 64, 200, api.MaxCap} {
			for seed := range uint64(3) {
				h := hold(t, seed, limit)
				h.each(shuffled(twice, seed)...)
				h.each(shuffled(twice, seed+9)...)
				h.all()
			}
		}
		h := hold(t, 4, api.MaxCap)
		same(t, h.each(twice...), len(l), "Each")
		h.whole()
	}
}

// TestHandedIn: what is handed in is neither changed nor kept, and its spare room isn't either.
func TestHandedIn(t *testing.T) {
	room := spread(1, 200, 77)
	want := slices.Clone(room)
	h := hold(t, 4, api.MaxCap)
	same(t, h.x.Each(room[:100]...), 100, "Each")
	list(t, room, want, "what was handed in")
	for i := range room {
		room[i] = 3
	}
	list(t, slices.Collect(h.x.All()), want[:100], "All")
	l := slices.Collect(h.x.All())
	clear(l[:cap(l)])
	list(t, slices.Collect(h.x.All()), want[:100], "All")
}

// stopped is what s tells to one who stops it behind n.
func stopped(s iter.Seq[uint64], n int) []uint64 {
	var l []uint64
	s(func(k uint64) bool {
		l = append(l, k)
		return len(l) < n
	})
	return l
}

func TestAll(t *testing.T) {
	for name, keys := range samples() {
		h := hold(t, 12, api.MaxCap)
		all := h.x.All()
		list(t, slices.Collect(all), nil, "All of none")
		h.each(keys...)
		want := rising(keys)
		for range 2 {
			list(t, slices.Collect(all), want, "All, gone through again", name)
			list(t, slices.Collect(h.x.All()), want, "All", name)
		}
		for n := 1; n <= len(want); n++ {
			list(t, stopped(all, n), want[:n], "All, stopped", name)
		}
		for i, k := range want {
			h.delete(k)
			list(t, slices.Collect(all), want[i+1:], "All behind Delete", name)
		}
		h.each(keys...)
		list(t, slices.Collect(all), want, "All behind Each", name)
		h.clear()
		list(t, slices.Collect(all), nil, "All behind Clear", name)
	}
}

func TestAllWithinItself(t *testing.T) {
	for _, l := range [][]uint64{few(), spread(60, 9, 1), bits()[:20], mixed(25, 7)} {
		h := filled(t, api.MaxCap, l)
		want := rising(l)
		all := h.x.All()
		var got []uint64
		for k := range all {
			got = append(got, k)
			list(t, slices.Collect(all), want, "All within itself")
			list(t, stopped(all, 2), want[:2], "All within itself, stopped")
			h.asked(k)
			h.max()
		}
		list(t, got, want, "All")
	}
}

func TestClear(t *testing.T) {
	for _, l := range samples() {
		h := hold(t, 13, 5*len(l)+1)
		h.clear()
		h.whole()
		for seed := range uint64(3) {
			same(t, h.each(shuffled(l, seed)...), len(l), "Each")
			if seed == 1 && len(l) > 1 {
				same(t, h.delete(l[0]), api.OK, "Delete")
			}
			h.clear()
			h.whole()
			for _, k := range l {
				same(t, h.has(k), false, "Has", k)
				same(t, h.delete(k), api.ErrNone, "Delete", k)
			}
			h.clear()
			same(t, h.insert(77), api.OK, "Insert")
			h.whole()
			h.clear()
		}
		h.each(l...)
		h.whole()
	}
}

func TestTreesStandApart(t *testing.T) {
	a, b := hold(t, 7, 40), hold(t, 7, 30)
	same(t, a.each(5, 9, 1<<63, 6, 7), 5, "Each")
	b.whole()
	same(t, b.each(9, 10, 64, 11), 4, "Each")
	same(t, a.delete(9), api.OK, "Delete")
	a.whole()
	b.whole()
	a.clear()
	b.whole()
	same(t, b.delete(64), api.OK, "Delete")
	same(t, tell(a.x.Meter) == tell(b.x.Meter), false, "meters")
	a.whole()
	b.whole()
}

// TestOtherWays: what is told hangs on the keys, not on the seed, nor on how the tree came to have them.
func TestOtherWays(t *testing.T) {
	l, others := mixed(120, 6), spread(0x2222, 90, 1<<20+16)
	for _, seed := range seeds() {
		a, b := hold(t, seed, api.MaxCap), hold(t, seed+1, api.MaxCap)
		a.each(l...)
		b.each(others...)
		b.each(reversed(l)...)
		for _, k := range others {
			same(t, b.delete(k), api.OK, "Delete", k)
		}
		list(t, b.all(), a.all(), "All")
		for _, k := range append(spread(0, 200, 0x0123_4567_89ab_cdef), l...) {
			same(t, find(a.x.Next(k)), find(b.x.Next(k)), "Next", k)
			same(t, find(a.x.Prev(k)), find(b.x.Prev(k)), "Prev", k)
			same(t, a.x.Has(k), b.x.Has(k), "Has", k)
		}
		same(t, a.x.Used(), b.x.Used(), "Used")
		same(t, a.x.Depth(), b.x.Depth(), "Depth")
	}
}

func TestDepth(t *testing.T) {
	h := hold(t, 2, api.MaxCap)
	// Each level takes two keys by itself, the last one sixteen.
	for i, want := range []int{0, 1, 1, 2, 2, 3, 3, 4, 4, 5, 5, 5, 5} {
		same(t, h.x.Depth(), want, "Depth of so many", i)
		same(t, h.insert(uint64(100+i)), api.OK, "Insert")
	}
	for i := 13; i > 0; i-- {
		same(t, h.delete(uint64(99+i)), api.OK, "Delete")
	}
	same(t, h.x.Depth(), 0, "Depth at last")
	// The summary's nodes count, too: here the clusters have but one key each.
	same(t, h.each(spread(0, 12, 1<<32)...), 12, "Each")
	same(t, h.x.Depth(), 5, "Depth of the summary")
	h.clear()
	same(t, h.x.Depth(), 0, "Depth behind Clear")
	h.each(spread(5, 1000, 0x9e37_79b9_7f4a_7c15)...)
	same(t, h.x.Depth(), 5, "Depth of many that lie far apart")
}

func TestVeryMany(t *testing.T) {
	n := 1 << 16
	lists := map[string][]uint64{
		"one behind the other": spread(0, n, 1),
		"by 65":                spread(1<<63-1<<20, n, 65),
		"by a cluster":         spread(3, n, 1<<32),
		"far apart":            spread(3, n, 0x9e37_79b9_7f4a_7c15),
	}
	for name, l := range lists {
		x := newTree(t, uint64(n), api.MaxCap)
		order := shuffled(l, 1)
		for i := 0; i < n; i += n / 8 {
			same(t, x.Each(order[i:i+n/8]...), n/8, "Each", name)
			want := shapeOf(rising(order[:i+n/8]), 64)
			same(t, shape{x.Used(), x.Depth()}, want, "Used, Depth", name)
		}
		want := rising(l)
		list(t, slices.Collect(x.All()), want, "All", name)
		for i, k := range want[1:] {
			same(t, find(x.Next(want[i]+1)), found{k, true}, "Next", name)
			same(t, find(x.Prev(k-1)), found{want[i], true}, "Prev", name)
		}
		order = shuffled(l, 2)
		for i, k := range order {
			if i%(n/8) == 0 {
				want := shapeOf(rising(order[i:]), 64)
				same(t, shape{x.Used(), x.Depth()}, want, "Used, Depth", name)
			}
			same(t, x.Delete(k), api.OK, "Delete", k)
			same(t, x.Len(), n-i-1, "Len", name)
		}
		same(t, x.Used()+x.Depth(), 0, "Used, Depth at last", name)
	}
}

func TestScripts(t *testing.T) {
	for n, limit := range []int{0, 1, 2, 3, 9, 30, 100, 400, api.MaxCap} {
		for k, keys := range [][]uint64{mixed(6, 1), few(), mixed(40, 2), spread(250, 30, 1), append(bits(), 0, greatest), mixed(120, 3), spread(9, 60, 1<<32)} {
			script(t, seeds()[(n+k)%5], limit, keys, uint64(100*n+k))
		}
	}
}

// TestScriptsOfSeeds: one script is answered alike by trees of all seeds.
func TestScriptsOfSeeds(t *testing.T) {
	for _, seed := range append(seeds(), 2, 3, 1<<32, 0x0123_4567_89ab_cdef) {
		script(t, seed, 60, mixed(60, 11), 5)
		script(t, seed, api.MaxCap, append(mixed(60, 12), spread(1<<32-20, 40, 1)...), 6)
	}
}

// script tells a tree and a model the same things, and holds what each call answers, and what is told behind each.
func script(t *testing.T, seed uint64, limit int, keys []uint64, order uint64) {
	t.Helper()
	number := numbers(order)
	h := hold(t, seed, limit)
	for i := range 1200 {
		k := keys[number(len(keys))]
		near := about(k)[number(67)]
		switch do(number, i/300%2 == 0) {
		case 'i':
			h.insert(k)
		case 'd':
			h.delete(k)
		case 'e':
			from := number(len(keys))
			h.each(keys[from:min(len(keys), from+number(9))]...)
		case 'c':
			h.clear()
		case 'a':
			h.asked(k)
			h.asked(near)
		case 'm':
			h.min()
			h.max()
		}
		if i%50 == 0 {
			h.all()
		}
	}
	h.whole()
}

// do tells which call is next; whether there are more of insert or of delete makes trees grow and fall.
func do(number func(int) int, grow bool) rune {
	n := number(20)
	switch {
	case n == 0 && number(30) == 0:
		return 'c'
	case n < 3:
		return 'm'
	case n < 9:
		return 'a'
	case n == 9 && number(4) == 0:
		return 'e'
	case n < 16 == grow:
		return 'i'
	}
	return 'd'
}

// P12.2

// TestStepsOfTheDeepest: the key asked for ends in a word below nodes of all levels: all five are read, and four times a cluster is looked for.
func TestStepsOfTheDeepest(t *testing.T) {
	h := filled(t, api.MaxCap, spread(0x1234_5678_9abc_def0, 16, 1))
	for _, k := range spread(0x1234_5678_9abc_def4, 8, 1) {
		reads, calls := h.x.Reads(), h.x.Calls()
		same(t, h.has(k), true, "Has", k)
		same(t, h.x.Reads()-reads, 5, "Reads of Has", k)
		same(t, h.x.Calls()-calls, 4, "Calls of Has", k)
		same(t, h.x.Taken(), hasSteps, "steps of Has", k)
		reads, calls = h.x.Reads(), h.x.Calls()
		same(t, h.next(k), found{k, true}, "Next", k)
		same(t, h.prev(k), found{k, true}, "Prev", k)
		same(t, h.x.Reads() >= reads+10, true, "Reads of Next and Prev", k)
		same(t, h.x.Calls() >= calls+8, true, "Calls of Next and Prev", k)
	}
	h = filled(t, api.MaxCap, []uint64{5, 9})
	h.min()
	same(t, h.x.Taken(), 1, "steps of Min")
	h.max()
	same(t, h.x.Taken(), 1, "steps of Max")
}

// TestStepsOfTheFarthest: on each level the key's own cluster is looked at in vain, then the summary, then another cluster.
func TestStepsOfTheFarthest(t *testing.T) {
	keys, ask := deep(64)
	h := filled(t, api.MaxCap, keys)
	same(t, h.x.Depth(), 5, "Depth")
	next := h.next(ask)
	same(t, next.ok, true, "Next", ask)
	h = filled(t, api.MaxCap, inverted(keys))
	same(t, h.prev(^ask), found{^next.key, true}, "Prev", ^ask)
	for _, l := range [][]uint64{keys, inverted(keys)} {
		h = filled(t, api.MaxCap, l)
		for _, k := range l {
			for _, a := range about(k) {
				h.asked(a)
				h.asked(ask ^ a)
			}
		}
	}
}

// TestSteps: in whatever tree, no operation takes more than it may.
func TestSteps(t *testing.T) {
	l := append(append(spread(0, 4000, 1), spread(1<<30, 3000, 1<<9)...), mixed(1500, 8)...)
	l = append(l, spread(1<<34, 4000, 7<<31+5)...)
	x := newTree(t, 3, api.MaxCap)
	x.Each(l...)
	ask := append(spread(1<<29, 4000, 1<<10), spread(7, 4000, 0x9e37_79b9_7f4a_7c15)...)
	calls := map[string]struct {
		most int
		call func(k uint64)
	}{
		"Has":  {hasSteps, func(k uint64) { x.Has(k) }},
		"Next": {nearSteps, func(k uint64) { x.Next(k) }},
		"Prev": {nearSteps, func(k uint64) { x.Prev(k) }},
		"Min":  {endSteps, func(uint64) { x.Min() }},
		"Max":  {endSteps, func(uint64) { x.Max() }},
	}
	for name, c := range calls {
		for _, k := range append(l, ask...) {
			for _, a := range []uint64{k - 1, k, k + 1} {
				c.call(a)
				if n := x.Taken(); n < 1 || n > c.most {
					t.Fatalf("%s %d: %d steps", name, a, n)
				}
			}
		}
	}
}

// TestWhatTakesNoSteps: what begins no operation doesn't add to the one before, which may take no more.
func TestWhatTakesNoSteps(t *testing.T) {
	h := filled(t, api.MaxCap, mixed(300, 4))
	x := h.x
	for _, k := range mixed(300, 4) {
		x.Has(k)
		told := tell(x.Meter)
		x.Len()
		x.Used()
		x.Limit()
		x.Depth()
		h.all()
		stopped(x.All(), 9)
		same(t, tell(x.Meter), told, "steps behind Has", k)
	}
	x.Min()
	x.Clear()
	same(t, x.Taken(), 1, "Taken behind Min and Clear")
}

func TestWhatBeginsAnOperation(t *testing.T) {
	h := hold(t, 1, 3)
	for range 2 {
		starts := h.x.Starts()
		for i, f := range []func(){
			func() { h.x.Insert(5) }, func() { h.x.Insert(5) }, func() { h.x.Delete(6) }, func() { h.x.Delete(5) }, func() { h.x.Has(5) },
			func() { h.x.Next(5) }, func() { h.x.Prev(5) }, func() { h.x.Min() }, func() { h.x.Max() }, func() { h.x.Insert(7) }, func() { h.x.Next(7) }, func() { h.x.Prev(8) },
			func() { h.x.Insert(1 << 63) }, func() { h.x.Insert(1 << 62) }, func() { h.x.Insert(1 << 31) },
		} {
			f()
			same(t, h.x.Starts(), starts+i+1, "Starts behind", i)
		}
		starts = h.x.Starts()
		for i, f := range []func(){
			func() { h.x.Len() }, func() { h.x.Used() }, func() { h.x.Limit() }, func() { h.x.All() }, func() { stopped(h.x.All(), 2) },
			func() { stopped(h.x.All(), 99) }, func() { h.x.Depth() }, func() { h.x.Each() }, func() { h.x.Clear() },
		} {
			f()
			same(t, h.x.Starts(), starts, "Starts behind", i)
		}
	}
}

// TestOperationsOfEach: each of its keys is inserted, till one is too many.
func TestOperationsOfEach(t *testing.T) {
	x := newTree(t, 1, 1)
	same(t, x.Each(5, 5, 6), 2, "Each")
	same(t, x.Starts(), 3, "Starts behind Each of three")
	same(t, x.Each(5, 7, 6), 0, "Each")
	same(t, x.Starts(), 5, "Starts behind Each, full at the second")
}

func TestMeter(t *testing.T) {
	x := newTree(t, 9, 40)
	own := x.Meter
	same(t, own != nil, true, "a meter")
	x.Each(5, 6, 7)
	x.Has(6)
	same(t, tell(own), steps{x.Taken(), x.Reads(), x.Calls(), x.Peak(), x.Starts()}, "the tree's methods")
	same(t, x.Starts(), 4, "Starts")
	reads, calls, peak := x.Reads(), x.Calls(), x.Peak()
	x.Start()
	same(t, tell(own), steps{0, reads, calls, peak, 5}, "steps behind Start")
	x.Read()
	x.Call()
	x.Call()
	same(t, tell(own), steps{3, reads + 1, calls + 2, max(peak, 3), 5}, "steps behind Read, Call, Call")
	x.Min()
	same(t, tell(own), steps{1, reads + 2, calls + 2, max(peak, 3), 6}, "steps behind Min")
	same(t, count.Sum(own), reads+calls+4, "Sum")
	same(t, count.Worst(own), x.Peak(), "Worst")
	x.Clear()
	same(t, tell(own), steps{1, reads + 2, calls + 2, max(peak, 3), 6}, "steps behind Clear")
	same(t, x.Meter, own, "the meter")
	same(t, tell(newTree(t, 9, 40).Meter), steps{}, "steps of another")
}

// P12.3

// TestMostNodesForAKey: a key may need five nodes; four are too few, and with four nothing changes.
func TestMostNodesForAKey(t *testing.T) {
	keys, more := wide(64)
	h := filled(t, api.MaxCap, keys)
	used := h.x.Used()
	same(t, h.insert(more), api.OK, "Insert", more)
	same(t, h.x.Used(), used+5, "Used")
	same(t, h.delete(more), api.OK, "Delete", more)
	same(t, h.x.Used(), used, "Used")
	for room := range 5 {
		o := filled(t, used+room, keys)
		o.stays(func() { same(t, o.insert(more), api.ErrFull, "Insert", more, "room for", room) })
	}
	o := filled(t, used+5, keys)
	same(t, o.insert(more), api.OK, "Insert", more)
	o.closely()
}

// TestNodesOfKeys: whichever keys come, in whichever order, each needs five nodes more at most; so five for each key and one are enough for all.
func TestNodesOfKeys(t *testing.T) {
	widest, more := wide(64)
	lists := [][]uint64{append(widest, more), spread(0, 3000, 1), spread(5, 3000, 1<<32+1), spread(9, 3000, 1<<48+1<<16), spread(3, 3000, 0x9e37_79b9_7f4a_7c15), mixed(1500, 20)}
	for i, l := range lists {
		for _, order := range [][]uint64{l, reversed(l), shuffled(l, uint64(i))} {
			x := newTree(t, uint64(i), 5*len(l)+1)
			used := 0
			for n, k := range order {
				same(t, x.Insert(k), api.OK, "Insert", k)
				if now := x.Used(); now > used+5 || now < used || now > 5*(n+1)+1 {
					t.Fatalf("Insert %d: %d nodes, then %d, of %d keys", k, used, now, n+1)
				}
				used = x.Used()
			}
			for _, k := range shuffled(l, 9) {
				same(t, x.Delete(k), api.OK, "Delete", k)
				if now := x.Used(); now > used {
					t.Fatalf("Delete %d: %d nodes, then %d", k, used, now)
				}
				used = x.Used()
			}
			same(t, used, 0, "Used at last")
		}
	}
}

func TestNil(t *testing.T) {
	var x *veb.VEB
	all := x.All()
	for range 2 {
		for _, k := range append(about(0), about(greatest)...) {
			same(t, x.Insert(k), api.ErrNone, "nil Insert", k)
			same(t, x.Delete(k), api.ErrNone, "nil Delete", k)
			same(t, x.Has(k), false, "nil Has", k)
			same(t, find(x.Next(k)), found{}, "nil Next", k)
			same(t, find(x.Prev(k)), found{}, "nil Prev", k)
			same(t, x.Each(k, k, 5), 0, "nil Each", k)
		}
		same(t, find(x.Min()), found{}, "nil Min")
		same(t, find(x.Max()), found{}, "nil Max")
		same(t, x.Len()+x.Used()+x.Limit()+x.Depth()+x.Each(), 0, "nil Len, Used, Limit, Depth, Each")
		list(t, slices.Collect(x.All()), nil, "nil All")
		list(t, slices.Collect(all), nil, "nil All, gone through again")
		x.Clear()
	}
}

func TestExample(t *testing.T) {
	h := hold(t, 42, 3)
	same(t, h.insert(1), api.OK, "Insert")
	same(t, h.insert(2), api.OK, "Insert")
	same(t, h.x.Used(), 1, "Used")
	same(t, h.insert(3), api.OK, "Insert")
	same(t, h.x.Used(), 3, "Used")
	h.closely()
}
