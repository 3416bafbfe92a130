package xfast_test

import (
	"iter"
	"math"
	"math/bits"
	"slices"
	"testing"

	"stepstone/api"
	"stepstone/count"
	"stepstone/xfast"
)

const greatest = math.MaxUint64

// What the document says that operations take at most; unbound is of those of which it says nothing.
const (
	hasSteps    = 1
	nearSteps   = 9
	endSteps    = 1
	sharedSteps = 7
	unbound     = math.MaxInt
)

// same calls Helper where it fails alone, as others below that are called very often: it is slow.
func same[T comparable](t *testing.T, got, want T, what string, about ...any) {
	if got != want {
		t.Helper()
		t.Fatalf("%s %v: %v, not %v", what, about, got, want)
	}
}

// list holds lists against each other; long ones aren't told.
func list(t *testing.T, got, want []uint64, what string, about ...any) {
	if !slices.Equal(got, want) {
		t.Helper()
		t.Fatalf("%s %v: %v (%d), not %v (%d)", what, about, got[:min(len(got), 40)], len(got), want[:min(len(want), 40)], len(want))
	}
}

// found is what a call answers that may find nothing.
type found struct {
	key uint64
	ok  bool
}

func find(k uint64, ok bool) found { return found{k, ok} }

// steps is what a meter tells: Taken, Reads, Calls, Peak, Starts.
type steps [5]int

func tell(m *count.Meter) steps {
	return steps{m.Taken(), m.Reads(), m.Calls(), m.Peak(), m.Starts()}
}

// numbers answers a function that tells numbers below n, on and on, by the seed.
func numbers(seed uint64) func(n int) int {
	return func(n int) int {
		seed = seed*6364136223846793005 + 1442695040888963407
		return int(seed >> 33 % uint64(n))
	}
}

func shuffled(l []uint64, seed uint64) []uint64 {
	number, r := numbers(seed), slices.Clone(l)
	for i := range r {
		j := i + number(len(r)-i)
		r[i], r[j] = r[j], r[i]
	}
	return r
}

func reversed(l []uint64) []uint64 {
	r := slices.Clone(l)
	slices.Reverse(r)
	return r
}

func rising(l []uint64) []uint64 { return slices.Sorted(slices.Values(l)) }

// prefix is a key's first bits, and how many they are.
type prefix struct {
	bits  int
	first uint64
}

// prefixes are the document's words: the first 0, 1, .. 64 bits.
func prefixes(k uint64) []prefix {
	var l []prefix
	for n := range 65 {
		l = append(l, prefix{n, k &^ (greatest >> n)})
	}
	return l
}

// model is a trie as the document's words tell it: a plain rising list, and of each prefix how many keys have it.
type model struct {
	limit int
	keys  []uint64
	have  map[prefix]int
}

func (m *model) used() int { return len(m.have) + len(m.keys) }

func (m *model) has(k uint64) bool {
	_, ok := slices.BinarySearch(m.keys, k)
	return ok
}

func (m *model) needs(k uint64) int {
	if m.has(k) {
		return 0
	}
	n := 1
	for _, p := range prefixes(k) {
		if m.have[p] == 0 {
			n++
		}
	}
	return n
}

func (m *model) shared(k uint64) int {
	most := -1
	for _, p := range prefixes(k) {
		if m.have[p] > 0 {
			most = p.bits
		}
	}
	return most
}

func (m *model) insert(k uint64) api.Errno {
	i, ok := slices.BinarySearch(m.keys, k)
	if ok {
		return api.ErrExists
	}
	if m.used()+m.needs(k) > m.limit {
		return api.ErrFull
	}
	m.keys = slices.Insert(m.keys, i, k)
	for _, p := range prefixes(k) {
		m.have[p]++
	}
	return api.OK
}

func (m *model) delete(k uint64) api.Errno {
	i, ok := slices.BinarySearch(m.keys, k)
	if !ok {
		return api.ErrNone
	}
	m.keys = slices.Delete(m.keys, i, i+1)
	for _, p := range prefixes(k) {
		m.have[p]--
		if m.have[p] == 0 {
			delete(m.have, p)
		}
	}
	return api.OK
}

// at is the key at that place of the list.
func (m *model) at(i int) found {
	if i < 0 || i >= len(m.keys) {
		return found{}
	}
	return found{m.keys[i], true}
}

func (m *model) next(k uint64) found {
	i, _ := slices.BinarySearch(m.keys, k)
	return m.at(i)
}

func (m *model) prev(k uint64) found {
	i, ok := slices.BinarySearch(m.keys, k)
	if ok {
		return m.at(i)
	}
	return m.at(i - 1)
}

// each tells how many of l were new ahead of the first that there was no room for.
func (m *model) each(l []uint64) int {
	n := 0
	for _, k := range l {
		switch m.insert(k) {
		case api.OK:
			n++
		case api.ErrFull:
			return n
		}
	}
	return n
}

// held is a trie that is held against a model behind each call.
type held struct {
	t *testing.T
	x *xfast.XFast
	m *model
}

// seeds are some that change no answer.
func seeds() []uint64 { return []uint64{0, 1, 7, 1 << 63, greatest} }

func newTrie(t *testing.T, seed uint64, limit int) *xfast.XFast {
	t.Helper()
	x, e := xfast.New(seed, limit)
	if e != api.OK || x == nil {
		t.Fatalf("New %d, %d: %v, %v", seed, limit, x, e)
	}
	return x
}

func hold(t *testing.T, seed uint64, limit int) held {
	t.Helper()
	return held{t, newTrie(t, seed, limit), &model{limit: limit, have: map[prefix]int{}}}
}

// filled has the keys, inserted in this order.
func filled(t *testing.T, limit int, keys []uint64) held {
	t.Helper()
	h := hold(t, uint64(limit)*31+uint64(len(keys)), limit)
	for _, k := range keys {
		same(t, h.insert(k), api.OK, "Insert", k, "of", keys)
	}
	return h
}

// operation holds that f begins one operation, which takes at most so many steps.
func (h held) operation(most int, f func(), what string, about ...any) {
	starts, sum := h.x.Starts(), count.Sum(h.x.Meter)
	f()
	taken := h.x.Taken()
	began, all := h.x.Starts()-starts, count.Sum(h.x.Meter)-sum
	if taken > most || began != 1 || all != taken {
		h.t.Helper()
		h.t.Fatalf("%s %v: %d steps (in all: %d), at most %d; it began %d operations", what, about, taken, all, most, began)
	}
	h.behind(what, about...)
}

// apart holds that f begins no operation, and takes no steps: they would count to the operation before.
func (h held) apart(f func(), what string, about ...any) {
	told := tell(h.x.Meter)
	f()
	if now := tell(h.x.Meter); now != told {
		h.t.Helper()
		h.t.Fatalf("%s %v: steps %v, then %v", what, about, told, now)
	}
	h.behind(what, about...)
}

// sizes is Len, Used, Limit.
type sizes [3]int

// behind holds what is told behind every call.
func (h held) behind(what string, about ...any) {
	got := sizes{h.x.Len(), h.x.Used(), h.x.Limit()}
	want := sizes{len(h.m.keys), h.m.used(), h.m.limit}
	if got != want {
		h.t.Helper()
		h.t.Fatalf("Len, Used, Limit behind %s %v: %v, not %v", what, about, got, want)
	}
}

func (h held) insert(k uint64) api.Errno {
	h.t.Helper()
	want := h.m.insert(k)
	h.operation(unbound, func() { same(h.t, h.x.Insert(k), want, "Insert", k) }, "Insert", k)
	return want
}

func (h held) delete(k uint64) api.Errno {
	h.t.Helper()
	want := h.m.delete(k)
	h.operation(unbound, func() { same(h.t, h.x.Delete(k), want, "Delete", k) }, "Delete", k)
	return want
}

func (h held) has(k uint64) bool {
	h.t.Helper()
	want := h.m.has(k)
	h.operation(hasSteps, func() { same(h.t, h.x.Has(k), want, "Has", k) }, "Has", k)
	return want
}

func (h held) next(k uint64) found {
	h.t.Helper()
	want := h.m.next(k)
	h.operation(nearSteps, func() { same(h.t, find(h.x.Next(k)), want, "Next", k) }, "Next", k)
	return want
}

func (h held) prev(k uint64) found {
	h.t.Helper()
	want := h.m.prev(k)
	h.operation(nearSteps, func() { same(h.t, find(h.x.Prev(k)), want, "Prev", k) }, "Prev", k)
	return want
}

func (h held) min() found {
	h.t.Helper()
	want := h.m.at(0)
	h.operation(endSteps, func() { same(h.t, find(h.x.Min()), want, "Min") }, "Min")
	return want
}

func (h held) max() found {
	h.t.Helper()
	want := h.m.at(len(h.m.keys) - 1)
	h.operation(endSteps, func() { same(h.t, find(h.x.Max()), want, "Max") }, "Max")
	return want
}

func (h held) shared(k uint64) int {
	h.t.Helper()
	want := h.m.shared(k)
	h.operation(sharedSteps, func() { same(h.t, h.x.Shared(k), want, "Shared", k) }, "Shared", k)
	return want
}

func (h held) needs(k uint64) int {
	h.t.Helper()
	want := h.m.needs(k)
	h.apart(func() { same(h.t, h.x.Needs(k), want, "Needs", k) }, "Needs", k)
	return want
}

func (h held) each(l ...uint64) int {
	h.t.Helper()
	handed := slices.Clone(l)
	want := h.m.each(l)
	same(h.t, h.x.Each(l...), want, "Each", l)
	list(h.t, l, handed, "what was handed to Each")
	h.behind("Each", l)
	return want
}

func (h held) all() []uint64 {
	h.t.Helper()
	h.apart(func() { list(h.t, slices.Collect(h.x.All()), h.m.keys, "All") }, "All")
	return h.m.keys
}

func (h held) clear() {
	h.t.Helper()
	h.m.keys, h.m.have = nil, map[prefix]int{}
	h.apart(func() { h.x.Clear() }, "Clear")
}

// about are k, the keys beside it, and those that part from it in one bit.
func about(k uint64) []uint64 {
	l := []uint64{k - 1, k, k + 1}
	for i := range 64 {
		l = append(l, k^1<<i)
	}
	return l
}

// asked holds all that the trie answers about k.
func (h held) asked(k uint64) {
	h.t.Helper()
	h.has(k)
	h.next(k)
	h.prev(k)
	h.shared(k)
	h.needs(k)
}

// whole holds all that the trie tells.
func (h held) whole() {
	h.t.Helper()
	h.all()
	h.min()
	h.max()
	for _, k := range []uint64{0, 1, 1<<32 - 1, 1 << 32, 1<<63 - 1, 1 << 63, greatest - 1, greatest} {
		h.asked(k)
	}
	for _, k := range h.m.keys {
		h.asked(k - 1)
		h.asked(k)
		h.asked(k + 1)
	}
}

// closely is whole, with keys asked that part from those in it in each bit: so each prefix that a key has is the longest one of some key that isn't in it.
func (h held) closely() {
	h.t.Helper()
	h.whole()
	for _, k := range h.m.keys {
		for _, a := range about(k) {
			h.asked(a)
		}
	}
}

// stays holds that f changes nothing that the trie tells.
func (h held) stays(f func()) {
	h.t.Helper()
	keys, used := slices.Clone(h.m.keys), h.m.used()
	f()
	list(h.t, h.m.keys, keys, "keys")
	same(h.t, h.m.used(), used, "used")
	h.whole()
}

// single is one key for each bit, with that bit alone.
func single() []uint64 {
	var l []uint64
	for i := range 64 {
		l = append(l, 1<<i)
	}
	return l
}

// spread is n keys that are by apart, from from on.
func spread(from uint64, n int, by uint64) []uint64 {
	var l []uint64
	for i := range uint64(n) {
		l = append(l, from+i*by)
	}
	return l
}

// mixed is n keys here and there, that part from each other in any bits.
func mixed(n int, seed uint64) []uint64 {
	number := numbers(seed)
	l := []uint64{0x0123_4567_89ab_cdef}
	for len(l) < n {
		k := l[number(len(l))] ^ 1<<number(64)
		if number(2) == 0 {
			k ^= uint64(number(256)) << number(57)
		}
		if !slices.Contains(l, k) {
			l = append(l, k)
		}
	}
	return l[:n]
}

// inverted is keys the other way round: what was above is below.
func inverted(l []uint64) []uint64 {
	var r []uint64
	for _, k := range l {
		r = append(r, ^k)
	}
	return r
}

func samples() map[string][]uint64 {
	return map[string][]uint64{
		"none":                 nil,
		"the least":            {0},
		"the greatest":         {greatest},
		"both ends":            {0, greatest},
		"both ends and one":    {0, 1 << 40, greatest},
		"beside the ends":      {0, 1, greatest - 1, greatest},
		"the first bit":        {1<<63 - 1, 1 << 63},
		"the last bit":         {6, 7},
		"the example":          {5},
		"the first four bits":  spread(0, 16, 1<<60),
		"the last four bits":   spread(0x1234_5678_9abc_def0, 16, 1),
		"over an edge":         spread(0x1234_5678_ffff_fff0, 40, 1),
		"each bit alone":       single(),
		"each bit but one":     inverted(single()),
		"one behind the other": spread(1<<63-20, 40, 1),
		"by sevens":            spread(0, 40, 7),
		"far apart":            spread(3, 40, 0x9e37_79b9_7f4a_7c15),
		"here and there":       mixed(60, 5),
	}
}

// wrongLimits are those that there can't be.
func wrongLimits() []int {
	return []int{math.MinInt, math.MinInt + 1, -1 << 32, -api.MaxCap, -66, -2, -1, api.MaxCap + 1, api.MaxCap + 2, 2 * api.MaxCap, 1 << 32, math.MaxInt - 1, math.MaxInt}
}

// P14.1

func TestNew(t *testing.T) {
	for _, seed := range seeds() {
		for _, limit := range []int{0, 1, 2, 65, 66, 67, 4096, api.MaxCap - 1, api.MaxCap} {
			h := hold(t, seed, limit)
			same(t, tell(h.x.Meter), steps{}, "steps at first")
			h.behind("New", seed, limit)
			h.whole()
		}
	}
}

func TestLimitsThereCantBe(t *testing.T) {
	for _, seed := range seeds() {
		for _, limit := range wrongLimits() {
			x, e := xfast.New(seed, limit)
			same(t, e, api.ErrArg, "New", seed, limit)
			same(t, x, nil, "New", seed, limit)
		}
	}
}

func TestExample(t *testing.T) {
	h := hold(t, 42, 66)
	same(t, h.insert(5), api.OK, "Insert")
	same(t, h.x.Used(), 66, "Used")
	same(t, h.x.Shared(4), 63, "Shared")
	same(t, find(h.x.Next(4)), found{5, true}, "Next")
	h.closely()
}

// TestUsed is counted by hand here, so that the model is held against the document, too.
func TestUsed(t *testing.T) {
	for _, c := range []struct {
		keys []uint64
		used int
	}{
		{nil, 0},
		{[]uint64{0}, 66},
		{[]uint64{5}, 66},
		{[]uint64{greatest}, 66},
		{[]uint64{5, 4}, 68},
		{[]uint64{0, 1, 2}, 71},
		{[]uint64{0, 1, 2, 3}, 73},
		{[]uint64{0, greatest}, 66 + 65},
		{[]uint64{1<<63 - 1, 1 << 63}, 66 + 65},
		{[]uint64{0, 1 << 31, greatest}, 66 + 33 + 65},
		{spread(0, 16, 1), 61 + 2 + 4 + 8 + 16 + 16},
		{spread(0, 16, 1<<60), 1 + 2 + 4 + 8 + 61*16 + 16},
		{single(), 64*65/2 + 64 + 64},
	} {
		for _, order := range [][]uint64{c.keys, reversed(c.keys), shuffled(c.keys, 4)} {
			h := filled(t, c.used, order)
			same(t, h.x.Used(), c.used, "Used", order)
			h.whole()
			o := newTrie(t, 3, max(c.used-1, 0))
			same(t, o.Each(order...) < len(order), c.used > 0, "Each", order, "with room for one less")
		}
	}
}

// TestSharedAndNeeds are counted by hand here.
func TestSharedAndNeeds(t *testing.T) {
	empty := hold(t, 1, api.MaxCap)
	for _, k := range append(about(0), about(greatest)...) {
		same(t, empty.x.Shared(k), -1, "Shared of an empty one", k)
		same(t, empty.x.Needs(k), 66, "Needs of an empty one", k)
	}
	const a, b = 0xffff_0000_0000_0005, 5
	h := filled(t, api.MaxCap, []uint64{a, b})
	for _, c := range []struct {
		key           uint64
		shared, needs int
	}{
		{a, 64, 0},
		{b, 64, 0},
		{4, 63, 2},
		{7, 62, 3},
		{6, 62, 3},
		{1, 61, 4},
		{13, 60, 5},
		{1 << 32, 31, 34},
		{1<<63 - 1, 1, 64},
		{1 << 62, 1, 64},
		{1 << 61, 2, 63},
		{1 << 63, 1, 64},
		{3 << 62, 2, 63},
		{0xfffe_0000_0000_0005, 15, 50},
		{0xffff_8000_0000_0005, 16, 49},
		{0xffff_0000_0000_0004, 63, 2},
		{greatest, 16, 49},
	} {
		same(t, h.x.Shared(c.key), c.shared, "Shared", c.key)
		same(t, h.x.Needs(c.key), c.needs, "Needs", c.key)
		h.asked(c.key)
	}
	same(t, h.delete(a), api.OK, "Delete")
	for k, shared := range map[uint64]int{a: 0, 1 << 63: 0, greatest: 0, 1 << 62: 1, b: 64, 4: 63} {
		same(t, h.x.Shared(k), shared, "Shared behind Delete", k)
	}
	same(t, h.x.Needs(a), 65, "Needs behind Delete")
}

// TestNeedsIsWhatInsertUses: and what Delete gives back.
func TestNeedsIsWhatInsertUses(t *testing.T) {
	h := hold(t, 6, api.MaxCap)
	for _, k := range mixed(300, 12) {
		used, needs := h.x.Used(), h.needs(k)
		same(t, h.insert(k), api.OK, "Insert", k)
		same(t, h.x.Used(), used+needs, "Used", k)
		same(t, h.needs(k), 0, "Needs", k)
		same(t, h.shared(k), 64, "Shared", k)
		same(t, h.delete(k), api.OK, "Delete", k)
		same(t, h.x.Used(), used, "Used", k)
		same(t, h.insert(k), api.OK, "Insert", k)
	}
	h.whole()
}

func TestSamples(t *testing.T) {
	for name, l := range samples() {
		for i, seed := range seeds() {
			h := hold(t, seed, api.MaxCap)
			for _, k := range [][]uint64{l, rising(l), reversed(l), shuffled(l, 7), shuffled(l, 8)}[i] {
				same(t, h.insert(k), api.OK, "Insert", k)
			}
			list(t, h.all(), rising(l), name)
			h.whole()
			for _, k := range l {
				same(t, h.insert(k), api.ErrExists, "Insert", k)
			}
			h.all()
		}
	}
}

func TestSamplesClosely(t *testing.T) {
	for _, l := range samples() {
		h := filled(t, api.MaxCap, l[:min(len(l), 25)])
		h.closely()
		for _, k := range l[:len(h.m.keys)/2] {
			same(t, h.delete(k), api.OK, "Delete", k)
		}
		h.closely()
	}
}

// TestSamplesGrowAndFall holds everything behind each call.
func TestSamplesGrowAndFall(t *testing.T) {
	for _, l := range samples() {
		l = l[:min(len(l), 16)]
		h := hold(t, 11, api.MaxCap)
		for _, k := range shuffled(l, 3) {
			same(t, h.insert(k), api.OK, "Insert", k)
			h.closely()
		}
		for _, k := range shuffled(l, 4) {
			same(t, h.delete(k), api.OK, "Delete", k)
			h.closely()
		}
		same(t, h.x.Used(), 0, "Used at last")
	}
}

// few are keys that part from each other in the first bits, in the last ones, and in between.
func few() []uint64 {
	return []uint64{0x10, 0x11, 0x13, 0x1_0010, 0x5_0000_0010, 0x7000_0005_0000_0010, 0xf000_0005_0001_0010, 0xf000_0005_0001_0011}
}

// TestAllOfFew: whatever choice of some keys there is, in whatever way it came about.
func TestAllOfFew(t *testing.T) {
	l := few()
	for choice := range 1 << len(l) {
		h := filled(t, api.MaxCap, l)
		var rest []uint64
		for i, k := range l {
			if choice>>i&1 == 0 {
				same(t, h.delete(k), api.OK, "Delete", k)
			} else {
				rest = append(rest, k)
			}
		}
		h.whole()
		for _, k := range l {
			for i := 0; i < 64; i += 5 {
				h.asked(k ^ 1<<i)
			}
		}
		o := filled(t, api.MaxCap, rest)
		same(t, h.x.Used(), o.x.Used(), "Used of", rest)
		o.whole()
	}
}

// orders hands on each order of l.
func orders(l []uint64, f func([]uint64)) {
	l = slices.Clone(l)
	var from func(n int)
	from = func(n int) {
		if n == len(l) {
			f(l)
		}
		for i := n; i < len(l); i++ {
			l[n], l[i] = l[i], l[n]
			from(n + 1)
			l[n], l[i] = l[i], l[n]
		}
	}
	from(0)
}

// TestAllOrders: in whatever orders keys come and go, nothing is left, and nothing used, and there is room again.
func TestAllOrders(t *testing.T) {
	for _, l := range [][]uint64{{0, 1, greatest}, few()[:4], few()[4:], {5, 4, 6, 7}, {0, 1 << 63, 1 << 62, greatest}} {
		used := filled(t, api.MaxCap, l).m.used()
		orders(l, func(in []uint64) {
			orders(l, func(out []uint64) {
				// The limit is what they need: what stayed behind would be in the way.
				h := filled(t, used, in)
				same(t, h.x.Used(), used, "Used of", in)
				for _, k := range out {
					same(t, h.delete(k), api.OK, "Delete", k, "of", out)
					same(t, h.delete(k), api.ErrNone, "Delete", k, "of", out)
					h.all()
					h.asked(k)
				}
				same(t, h.x.Len(), 0, "Len at last")
				same(t, h.x.Used(), 0, "Used at last")
				same(t, h.each(in...), len(in), "Each", in)
			})
		})
	}
}

func TestManyOrders(t *testing.T) {
	for seed, l := range [][]uint64{spread(0, 100, 1), mixed(150, 9), single(), spread(greatest-70, 71, 1), spread(9, 60, 1<<58)} {
		used := filled(t, api.MaxCap, l).m.used()
		h := hold(t, uint64(seed), used)
		for _, order := range [][]uint64{l, rising(l), reversed(rising(l)), shuffled(l, uint64(seed)), shuffled(l, uint64(seed)+50)} {
			same(t, h.each(shuffled(l, uint64(seed)+99)...), len(l), "Each")
			same(t, h.x.Used(), used, "Used")
			for i, k := range order {
				same(t, h.delete(k), api.OK, "Delete", k)
				if i%8 == 0 {
					h.all()
					h.asked(k)
					h.min()
					h.max()
				}
			}
			h.whole()
			same(t, h.x.Used(), 0, "Used at last")
		}
	}
}

// TestEachBit: two keys that part in one bit, whichever it is, share the prefixes ahead of it.
func TestEachBit(t *testing.T) {
	for i := range 64 {
		a := 0x5a5a_a5a5_3c3c_c3c3 &^ (uint64(1) << i)
		b := a | 1<<i
		used := 66 + i + 2
		for _, l := range [][]uint64{{a, b}, {b, a}} {
			h := filled(t, api.MaxCap, l[:1])
			same(t, h.x.Shared(l[1]), 63-i, "Shared", l)
			same(t, h.x.Needs(l[1]), i+2, "Needs", l)
			h.closely()
			o := filled(t, used-1, l[:1])
			same(t, o.insert(l[1]), api.ErrFull, "Insert", l)
			h = filled(t, used, l)
			same(t, h.x.Used(), used, "Used", l)
			h.closely()
			if i > 0 {
				same(t, find(h.x.Next(a+1)), found{b, true}, "Next", a+1)
				same(t, find(h.x.Prev(b-1)), found{a, true}, "Prev", b-1)
			}
			same(t, h.delete(l[0]), api.OK, "Delete", l)
			same(t, h.x.Used(), 66, "Used", l)
			h.closely()
		}
	}
}

// TestTheEnds: keys come below the least and above the greatest one; when an end goes, the key beside it takes its place.
func TestTheEnds(t *testing.T) {
	h := hold(t, 5, api.MaxCap)
	for i := range uint64(40) {
		same(t, h.insert(1<<40-i*i*i*9-1), api.OK, "Insert")
		h.min()
		same(t, h.insert(1<<40+i*i*i*7), api.OK, "Insert")
		h.max()
	}
	h.closely()
	for len(h.m.keys) > 3 {
		least := h.m.keys[0]
		same(t, h.delete(least), api.OK, "Delete", least)
		same(t, h.next(least), h.min(), "Next", least)
		same(t, h.prev(least), found{}, "Prev", least)
		most := h.m.keys[len(h.m.keys)-1]
		same(t, h.delete(most), api.OK, "Delete", most)
		same(t, h.prev(most), h.max(), "Prev", most)
		same(t, h.next(most), found{}, "Next", most)
	}
	h.closely()
}

func TestTheFirstAndTheLastKey(t *testing.T) {
	h := hold(t, 6, 66+65+64)
	none := found{}
	same(t, h.insert(greatest), api.OK, "Insert")
	same(t, h.next(0), found{greatest, true}, "Next")
	same(t, h.next(greatest), found{greatest, true}, "Next")
	same(t, h.prev(greatest-1), none, "Prev")
	same(t, h.insert(0), api.OK, "Insert")
	same(t, h.prev(0), found{0, true}, "Prev")
	same(t, h.next(1), found{greatest, true}, "Next")
	same(t, h.prev(greatest-1), found{0, true}, "Prev")
	same(t, h.min(), found{0, true}, "Min")
	same(t, h.max(), found{greatest, true}, "Max")
	same(t, h.x.Used(), 66+65, "Used")
	same(t, h.insert(1), api.OK, "Insert")
	same(t, h.prev(greatest-1), found{1, true}, "Prev")
	same(t, h.next(2), found{greatest, true}, "Next")
	same(t, h.delete(0), api.OK, "Delete")
	same(t, h.min(), found{1, true}, "Min")
	same(t, h.delete(greatest), api.OK, "Delete")
	same(t, h.max(), found{1, true}, "Max")
	same(t, h.next(2), none, "Next")
	same(t, h.prev(0), none, "Prev")
	same(t, h.delete(1), api.OK, "Delete")
	same(t, h.min(), none, "Min")
	same(t, h.max(), none, "Max")
	same(t, h.x.Used(), 0, "Used")
}

func TestNextAndPrev(t *testing.T) {
	h := filled(t, api.MaxCap, []uint64{70, 5, 1 << 40, 9, 1 << 63})
	for k, want := range map[uint64]uint64{0: 5, 5: 5, 6: 9, 9: 9, 10: 70, 63: 70, 64: 70, 70: 70, 71: 1 << 40, 1<<40 - 1: 1 << 40, 1 << 40: 1 << 40, 1<<40 + 1: 1 << 63, 1<<63 - 1: 1 << 63, 1 << 63: 1 << 63} {
		same(t, find(h.x.Next(k)), found{want, true}, "Next", k)
	}
	for k, want := range map[uint64]uint64{5: 5, 8: 5, 9: 9, 69: 9, 70: 70, 127: 70, 128: 70, 1<<40 - 1: 70, 1 << 40: 1 << 40, 1<<63 - 1: 1 << 40, 1 << 63: 1 << 63, 1<<63 + 1: 1 << 63, greatest: 1 << 63} {
		same(t, find(h.x.Prev(k)), found{want, true}, "Prev", k)
	}
	for _, k := range []uint64{1<<63 + 1, 1<<63 + 64, greatest} {
		same(t, find(h.x.Next(k)), found{}, "Next", k)
	}
	for _, k := range []uint64{0, 1, 4} {
		same(t, find(h.x.Prev(k)), found{}, "Prev", k)
	}
}

// TestEmpty: of none there is nothing to find and nothing to delete, at first and behind the last key.
func TestEmpty(t *testing.T) {
	for _, limit := range []int{0, 1, 65, 66, 500, api.MaxCap} {
		h := hold(t, 8, limit)
		for range 3 {
			for _, k := range append(about(0), about(greatest)...) {
				h.stays(func() { same(t, h.delete(k), api.ErrNone, "Delete", k) })
				same(t, h.has(k), false, "Has", k)
				same(t, h.next(k), found{}, "Next", k)
				same(t, h.prev(k), found{}, "Prev", k)
				same(t, h.shared(k), -1, "Shared", k)
				same(t, h.needs(k), 66, "Needs", k)
			}
			if h.insert(1<<63) == api.OK {
				same(t, h.delete(1<<63), api.OK, "Delete")
			}
		}
	}
}

// TestDeleteOfOthers: of a key that isn't in it nothing goes, how near it may be.
func TestDeleteOfOthers(t *testing.T) {
	for _, l := range [][]uint64{{0}, {5}, {0x0123_4567_89ab_cdef, greatest}, {0, 9, greatest}, few()} {
		h := filled(t, 600, l)
		for _, k := range l {
			for _, o := range about(k) {
				if !slices.Contains(l, o) {
					same(t, h.delete(o), api.ErrNone, "Delete", o)
				}
			}
			same(t, h.has(k), true, "Has", k)
		}
		h.whole()
		for _, k := range l {
			same(t, h.insert(k), api.ErrExists, "Insert", k)
			same(t, h.delete(k), api.OK, "Delete", k)
			same(t, h.delete(k), api.ErrNone, "Delete", k)
		}
		h.whole()
	}
}

// TestLimitsWithoutAKey: 65 prefixes and the key itself need 66.
func TestLimitsWithoutAKey(t *testing.T) {
	for _, limit := range []int{0, 1, 64, 65} {
		h := hold(t, 9, limit)
		for _, k := range append(about(0), about(0x0123_4567_89ab_cdef)...) {
			same(t, h.insert(k), api.ErrFull, "Insert", k)
			same(t, h.delete(k), api.ErrNone, "Delete", k)
			same(t, h.each(k, k), 0, "Each", k)
			h.whole()
		}
	}
}

// TestLimitsOfOneKey: a second one needs two more at least.
func TestLimitsOfOneKey(t *testing.T) {
	for _, limit := range []int{66, 67} {
		for _, k := range []uint64{0, 9, 1 << 32, 1 << 63, greatest} {
			h := hold(t, k, limit)
			for range 2 {
				same(t, h.insert(k), api.OK, "Insert", k)
				for _, o := range about(k) {
					if o != k {
						h.stays(func() { same(t, h.insert(o), api.ErrFull, "Insert", o) })
					}
				}
				same(t, h.insert(k), api.ErrExists, "Insert", k)
				h.closely()
				same(t, h.delete(k), api.OK, "Delete", k)
				same(t, h.insert(^k), api.OK, "Insert", ^k)
				same(t, h.delete(^k), api.OK, "Delete", ^k)
			}
		}
	}
}

// TestFull: whatever the limit is, just what is above it is refused, and when keys go there is room again.
func TestFull(t *testing.T) {
	for _, l := range [][]uint64{single(), spread(0, 16, 1<<60), mixed(40, 2), spread(60, 60, 1), {5, 9, greatest, 1 << 63, 1 << 62, 7}} {
		for limit := 60; limit < 260; limit += 3 {
			h := hold(t, uint64(limit), limit)
			for _, k := range l {
				h.insert(k)
			}
			h.all()
			for _, k := range l {
				h.delete(k)
				h.insert(l[0])
				h.insert(k)
			}
			h.whole()
		}
	}
}

// TestFullChangesNothing, to the last one: one less is too few, and what is there already isn't kept out.
func TestFullChangesNothing(t *testing.T) {
	for _, l := range [][]uint64{{5, 9, 7, 6, 8, 10, 11}, few(), single()[28:34], {1 << 63, 0, 1 << 62, greatest}, mixed(8, 4)} {
		for n := 1; n < len(l); n++ {
			o := filled(t, api.MaxCap, l[:n])
			used, more := o.m.used(), o.m.needs(l[n])
			for limit := used; limit < used+more; limit++ {
				h := filled(t, limit, l[:n])
				h.stays(func() { same(t, h.insert(l[n]), api.ErrFull, "Insert", l[n], "limit", limit) })
				h.stays(func() { same(t, h.each(l[n], l[n]), 0, "Each", l[n], "limit", limit) })
				for _, k := range l[:n] {
					same(t, h.insert(k), api.ErrExists, "Insert", k, "limit", limit)
				}
				same(t, h.delete(l[n]), api.ErrNone, "Delete", l[n])
				h.whole()
			}
			h := filled(t, used+more, l[:n+1])
			same(t, h.x.Used(), used+more, "Used")
		}
	}
}

// TestGreatestLimit: of keys one behind the other there are half as many prefixes, rounded up, for each bit fewer.
func TestGreatestLimit(t *testing.T) {
	x := newTrie(t, 1, api.MaxCap)
	l := spread(0, 1<<19, 1)
	n := x.Each(l...)
	used := func(keys int) int {
		sum := keys
		for behind := range 65 {
			sum += (keys-1)>>behind + 1
		}
		return sum
	}
	same(t, x.Len(), n, "Len")
	same(t, x.Used(), used(n), "Used")
	same(t, used(n) <= api.MaxCap && used(n+1) > api.MaxCap, true, "full of", n)
	same(t, x.Insert(l[n]), api.ErrFull, "Insert", l[n])
	same(t, x.Insert(greatest), api.ErrFull, "Insert")
	same(t, x.Insert(l[n-1]), api.ErrExists, "Insert")
	list(t, slices.Collect(x.All()), l[:n], "All")
	// Links of great numbers are found, too.
	for i := n - 2; i > 0; i -= 101 {
		same(t, x.Delete(l[i]), api.OK, "Delete", i)
		same(t, find(x.Next(l[i])), found{l[i] + 1, true}, "Next", i)
		same(t, find(x.Prev(l[i])), found{l[i] - 1, true}, "Prev", i)
		same(t, x.Shared(l[i]) < 64, true, "Shared", i)
		same(t, x.Insert(l[i]), api.OK, "Insert", i)
	}
	same(t, find(x.Max()), found{l[n-1], true}, "Max")
	same(t, find(x.Next(l[n-1]+1)), found{}, "Next")
	same(t, find(x.Prev(greatest)), found{l[n-1], true}, "Prev")
	same(t, x.Delete(l[n-1]), api.OK, "Delete")
	same(t, x.Used(), used(n-1), "Used")
	x.Clear()
	same(t, x.Used()+x.Len(), 0, "Used, Len behind Clear")
	same(t, x.Limit(), api.MaxCap, "Limit")
	same(t, x.Insert(greatest), api.OK, "Insert")
	list(t, slices.Collect(x.All()), []uint64{greatest}, "All")
}

// TestGreatestLimitToTheLast: all that may be used is.
func TestGreatestLimitToTheLast(t *testing.T) {
	x := newTrie(t, 2, api.MaxCap)
	l := spread(3, 1<<15, 0x9e37_79b9_7f4a_7c15)
	n := x.Each(l...)
	rest := api.MaxCap - x.Used()
	same(t, n < len(l) && x.Needs(l[n]) > rest, true, "Needs of what was refused")
	last := l[0] ^ 1<<(rest-2)
	same(t, x.Needs(last), rest, "Needs of what fills it", last)
	same(t, x.Insert(last^1<<(rest-1)), api.ErrFull, "Insert of what needs one more")
	same(t, x.Insert(last), api.OK, "Insert", last)
	same(t, x.Used(), api.MaxCap, "Used, full")
	same(t, x.Insert(l[0]^1), api.ErrFull, "Insert, full")
	same(t, x.Has(l[0]^1), false, "Has of what was refused")
	same(t, x.Insert(last), api.ErrExists, "Insert, full")
	same(t, x.Len(), n+1, "Len, full")
	list(t, slices.Collect(x.All()), rising(append(l[:n:n], last)), "All, full")
	same(t, x.Delete(last), api.OK, "Delete")
	same(t, x.Used(), api.MaxCap-rest, "Used behind Delete")
	same(t, x.Insert(l[0]^1), api.OK, "Insert, with room again")
}

func TestEach(t *testing.T) {
	h := hold(t, 3, 66+4+3+65)
	same(t, h.each(), 0, "Each of none")
	same(t, h.each([]uint64{}...), 0, "Each of none")
	same(t, h.each(5), 1, "Each of one")
	same(t, h.each(5), 0, "Each of what is there")
	same(t, h.each(7, 5, 7, 4, 4, 5), 2, "Each of some twice")
	// What is full ends it: 6 would need but two, and stands behind.
	same(t, h.each(5, 1<<63, 1<<63, 1<<62, 6), 1, "Each till it's full")
	list(t, h.all(), []uint64{4, 5, 7, 1 << 63}, "All")
	same(t, h.each(5, 7, 4, 1<<63), 0, "Each of what is there")
	same(t, h.each(1<<62, 6), 0, "Each, full at once")
	same(t, h.each(6, 6, 7, 1<<61, 5), 1, "Each with room for one")
	h.whole()
	same(t, h.delete(1<<63), api.OK, "Delete")
	same(t, h.delete(6), api.OK, "Delete")
	same(t, h.each(1<<62, 1<<62, 6, 1<<61, 3), 2, "Each, with room again")
	h.whole()
}

func TestEachOfSamples(t *testing.T) {
	for _, l := range samples() {
		l = l[:min(len(l), 40)]
		twice := append(slices.Clone(l), l...)
		for _, limit := range []int{0, 65, 66, 67, 68, 130, 200, 700, api.MaxCap} {
			for seed := range uint64(3) {
				h := hold(t, seed, limit)
				h.each(shuffled(twice, seed)...)
				h.each(shuffled(twice, seed+9)...)
				h.all()
			}
		}
		h := hold(t, 4, api.MaxCap)
		same(t, h.each(twice...), len(l), "Each")
		h.whole()
	}
}

// TestHandedIn: what is handed in is neither changed nor kept, and its spare room isn't either.
func TestHandedIn(t *testing.T) {
	room := spread(1, 200, 77)
	want := slices.Clone(room)
	h := hold(t, 4, api.MaxCap)
	same(t, h.x.Each(room[:100]...), 100, "Each")
	list(t, room, want, "what was handed in")
	for i := range room {
		room[i] = 3
	}
	list(t, slices.Collect(h.x.All()), want[:100], "All")
	l := slices.Collect(h.x.All())
	clear(l[:cap(l)])
	list(t, slices.Collect(h.x.All()), want[:100], "All")
}

// stopped is what s tells to one who stops it behind n.
func stopped(s iter.Seq[uint64], n int) []uint64 {
	var l []uint64
	s(func(k uint64) bool {
		l = append(l, k)
		return len(l) < n
	})
	return l
}

func TestAll(t *testing.T) {
	for name, keys := range samples() {
		h := hold(t, 12, api.MaxCap)
		all := h.x.All()
		list(t, slices.Collect(all), nil, "All of none")
		h.each(keys...)
		want := rising(keys)
		for range 2 {
			list(t, slices.Collect(all), want, "All, gone through again", name)
			list(t, slices.Collect(h.x.All()), want, "All", name)
		}
		for n := 1; n <= len(want); n++ {
			list(t, stopped(all, n), want[:n], "All, stopped", name)
		}
		for i, k := range want {
			h.delete(k)
			list(t, slices.Collect(all), want[i+1:], "All behind Delete", name)
		}
		h.each(keys...)
		list(t, slices.Collect(all), want, "All behind Each", name)
		h.clear()
		list(t, slices.Collect(all), nil, "All behind Clear", name)
	}
}

func TestAllWithinItself(t *testing.T) {
	for _, l := range [][]uint64{few(), spread(60, 9, 1), mixed(25, 7)} {
		h := filled(t, api.MaxCap, l)
		want := rising(l)
		all := h.x.All()
		var got []uint64
		for k := range all {
			got = append(got, k)
			list(t, slices.Collect(all), want, "All within itself")
			list(t, stopped(all, 2), want[:2], "All within itself, stopped")
			h.asked(k)
			h.max()
		}
		list(t, got, want, "All")
	}
}

func TestClear(t *testing.T) {
	for _, l := range samples() {
		h := hold(t, 13, 66*len(l)+66)
		h.clear()
		h.whole()
		for seed := range uint64(3) {
			same(t, h.each(shuffled(l, seed)...), len(l), "Each")
			if seed == 1 && len(l) > 1 {
				same(t, h.delete(l[0]), api.OK, "Delete")
			}
			h.clear()
			h.whole()
			for _, k := range l {
				h.asked(k)
				same(t, h.delete(k), api.ErrNone, "Delete", k)
			}
			h.clear()
			same(t, h.insert(77), api.OK, "Insert")
			h.whole()
			h.clear()
		}
		h.each(l...)
		h.whole()
	}
}

func TestTriesStandApart(t *testing.T) {
	a, b := hold(t, 7, 400), hold(t, 7, 300)
	same(t, a.each(5, 9, 1<<63, 6, 7), 5, "Each")
	b.whole()
	same(t, b.each(9, 10, 64, 11), 4, "Each")
	same(t, a.delete(9), api.OK, "Delete")
	a.whole()
	b.whole()
	a.clear()
	b.whole()
	same(t, b.delete(64), api.OK, "Delete")
	same(t, tell(a.x.Meter) == tell(b.x.Meter), false, "meters")
	a.whole()
	b.whole()
}

// TestOtherWays: what is told hangs on the keys, not on the seed, nor on how the trie came to have them.
func TestOtherWays(t *testing.T) {
	l, others := mixed(120, 6), spread(0x2222, 90, 1<<20+16)
	for _, seed := range seeds() {
		a, b := hold(t, seed, api.MaxCap), hold(t, seed+1, api.MaxCap)
		a.each(l...)
		b.each(others...)
		b.each(reversed(l)...)
		for _, k := range others {
			same(t, b.delete(k), api.OK, "Delete", k)
		}
		list(t, b.all(), a.all(), "All")
		for _, k := range append(spread(0, 200, 0x0123_4567_89ab_cdef), l...) {
			same(t, find(a.x.Next(k)), find(b.x.Next(k)), "Next", k)
			same(t, find(a.x.Prev(k)), find(b.x.Prev(k)), "Prev", k)
			same(t, a.x.Has(k), b.x.Has(k), "Has", k)
			same(t, a.x.Shared(k), b.x.Shared(k), "Shared", k)
			same(t, a.x.Needs(k), b.x.Needs(k), "Needs", k)
		}
		same(t, a.x.Used(), b.x.Used(), "Used")
	}
}

// TestVeryMany: more keys than 16 bits can number.
func TestVeryMany(t *testing.T) {
	n := 1<<16 + 1000
	for name, l := range map[string][]uint64{"one behind the other": spread(1<<63-1<<15, n, 1), "by threes": spread(5, n, 3)} {
		x := newTrie(t, uint64(n), api.MaxCap)
		same(t, x.Each(shuffled(l, 1)...), n, "Each", name)
		want := rising(l)
		list(t, slices.Collect(x.All()), want, "All", name)
		used := x.Used()
		for i, k := range want[1:] {
			same(t, find(x.Next(want[i]+1)), found{k, true}, "Next", name)
			same(t, find(x.Prev(k-1)), found{want[i], true}, "Prev", name)
			if near := max(bits.LeadingZeros64(k-1^k), bits.LeadingZeros64(k-1^want[i])); k-1 != want[i] && x.Shared(k-1) < near {
				t.Fatalf("Shared %d: %d, not %d or more", k-1, x.Shared(k-1), near)
			}
		}
		for i, k := range shuffled(l, 2) {
			same(t, x.Delete(k), api.OK, "Delete", k)
			same(t, x.Len(), n-i-1, "Len", name)
			if i == n/2 {
				same(t, x.Used() < used, true, "Used", name)
			}
		}
		same(t, x.Used(), 0, "Used at last", name)
	}
}

func TestScripts(t *testing.T) {
	for n, limit := range []int{0, 65, 66, 67, 70, 140, 400, 2000, api.MaxCap} {
		for k, keys := range [][]uint64{mixed(6, 1), few(), mixed(40, 2), spread(250, 30, 1), append(single(), 0, greatest), spread(9, 60, 1<<58)} {
			script(t, seeds()[(n+k)%5], limit, keys, uint64(100*n+k))
		}
	}
}

// TestScriptsOfSeeds: one script is answered alike by tries of all seeds.
func TestScriptsOfSeeds(t *testing.T) {
	for _, seed := range append(seeds(), 2, 3, 1<<32, 0x0123_4567_89ab_cdef) {
		script(t, seed, 300, mixed(60, 11), 5)
		script(t, seed, api.MaxCap, append(mixed(60, 12), spread(1<<32-20, 40, 1)...), 6)
	}
}

// script tells a trie and a model the same things, and holds what each call answers, and what is told behind each.
func script(t *testing.T, seed uint64, limit int, keys []uint64, order uint64) {
	t.Helper()
	number := numbers(order)
	h := hold(t, seed, limit)
	for i := range 800 {
		k := keys[number(len(keys))]
		near := about(k)[number(67)]
		switch do(number, i/200%2 == 0) {
		case 'i':
			h.insert(k)
		case 'd':
			h.delete(k)
		case 'e':
			from := number(len(keys))
			h.each(keys[from:min(len(keys), from+number(9))]...)
		case 'c':
			h.clear()
		case 'a':
			h.asked(k)
			h.asked(near)
		case 'm':
			h.min()
			h.max()
		}
		if i%50 == 0 {
			h.all()
		}
	}
	h.whole()
}

// do tells which call is next; whether there are more of insert or of delete makes tries grow and fall.
func do(number func(int) int, grow bool) rune {
	n := number(20)
	switch {
	case n == 0 && number(30) == 0:
		return 'c'
	case n < 3:
		return 'm'
	case n < 9:
		return 'a'
	case n == 9 && number(4) == 0:
		return 'e'
	case n < 16 == grow:
		return 'i'
	}
	return 'd'
}

// Shared's and P14.2's steps

// TestStepsOfEachPrefix: whichever prefix is the longest one that there is, and on whichever side of it the key is.
func TestStepsOfEachPrefix(t *testing.T) {
	for _, k := range []uint64{0x5a5a_a5a5_3c3c_c3c3, 0x0123_4567_89ab_cdef, 0, greatest, 1 << 63, 1<<63 - 1} {
		for _, others := range [][]uint64{nil, {0}, {greatest}, {0, greatest}} {
			h := hold(t, k, api.MaxCap)
			h.each(k)
			h.each(others...)
			for _, a := range append(about(k), about(^k)...) {
				h.asked(a)
			}
		}
	}
}

// TestSteps: in whatever trie, no operation takes more than it may, and none of a trie with keys takes none.
func TestSteps(t *testing.T) {
	l := append(append(spread(0, 2000, 1), spread(1<<30, 1500, 1<<9)...), mixed(1000, 8)...)
	l = append(l, spread(1<<34, 2000, 7<<31+5)...)
	x := newTrie(t, 3, api.MaxCap)
	x.Each(l...)
	ask := append(spread(1<<29, 2000, 1<<10), spread(7, 2000, 0x9e37_79b9_7f4a_7c15)...)
	calls := map[string]struct {
		most int
		call func(k uint64)
	}{
		"Has":    {hasSteps, func(k uint64) { x.Has(k) }},
		"Next":   {nearSteps, func(k uint64) { x.Next(k) }},
		"Prev":   {nearSteps, func(k uint64) { x.Prev(k) }},
		"Min":    {endSteps, func(uint64) { x.Min() }},
		"Max":    {endSteps, func(uint64) { x.Max() }},
		"Shared": {sharedSteps, func(k uint64) { x.Shared(k) }},
	}
	for name, c := range calls {
		for _, k := range append(l, ask...) {
			for _, a := range []uint64{k - 1, k, k + 1} {
				c.call(a)
				if n := x.Taken(); n < 1 || n > c.most {
					t.Fatalf("%s %d: %d steps", name, a, n)
				}
			}
		}
	}
}

// TestWhatIsCounted: prefixes are found by calls of the table, keys are read in the chain.
func TestWhatIsCounted(t *testing.T) {
	h := filled(t, api.MaxCap, []uint64{5, 9})
	x := h.x
	reads, calls := x.Reads(), x.Calls()
	x.Has(5)
	same(t, x.Calls()-calls, 1, "Calls of Has")
	same(t, x.Reads()-reads, 0, "Reads of Has")
	calls = x.Calls()
	x.Min()
	x.Max()
	same(t, x.Calls()-calls, 0, "Calls of Min and Max")
	same(t, x.Reads()-reads, 2, "Reads of Min and Max")
	reads = x.Reads()
	x.Shared(8)
	same(t, x.Reads()-reads, 0, "Reads of Shared")
	same(t, x.Calls() > calls, true, "Calls of Shared")
	x.Next(6)
	same(t, x.Reads() > reads, true, "Reads of Next")
	// Each prefix of a key that comes or goes is looked up, too; of one that doesn't, as many as it takes to know.
	for i, f := range []func(){func() { x.Insert(5) }, func() { x.Delete(6) }} {
		calls = x.Calls()
		f()
		same(t, x.Calls() > calls, true, "Calls of what changes nothing", i)
	}
	for i, f := range []func(){func() { x.Insert(6) }, func() { x.Delete(6) }} {
		calls = x.Calls()
		f()
		same(t, x.Calls()-calls > 65, true, "Calls of what changes something", i)
	}
}

// TestWhatTakesNoSteps: what begins no operation doesn't add to the one before, which may take no more.
func TestWhatTakesNoSteps(t *testing.T) {
	h := filled(t, api.MaxCap, mixed(300, 4))
	x := h.x
	for _, k := range mixed(300, 4) {
		x.Has(k)
		told := tell(x.Meter)
		x.Len()
		x.Used()
		x.Limit()
		x.Needs(k)
		x.Needs(k + 1)
		h.all()
		stopped(x.All(), 9)
		same(t, tell(x.Meter), told, "steps behind Has", k)
	}
	x.Min()
	x.Clear()
	same(t, x.Taken(), 1, "Taken behind Min and Clear")
}

func TestWhatBeginsAnOperation(t *testing.T) {
	h := hold(t, 1, 66+4+3)
	for range 2 {
		starts := h.x.Starts()
		for i, f := range []func(){
			func() { h.x.Insert(5) }, func() { h.x.Insert(5) }, func() { h.x.Delete(6) }, func() { h.x.Delete(5) }, func() { h.x.Has(5) },
			func() { h.x.Next(5) }, func() { h.x.Prev(5) }, func() { h.x.Min() }, func() { h.x.Max() }, func() { h.x.Shared(5) },
			func() { h.x.Insert(7) }, func() { h.x.Next(7) }, func() { h.x.Prev(8) }, func() { h.x.Has(7) }, func() { h.x.Min() }, func() { h.x.Max() },
			func() { h.x.Shared(7) }, func() { h.x.Shared(6) }, func() { h.x.Insert(1 << 63) }, func() { h.x.Insert(1 << 62) },
		} {
			f()
			same(t, h.x.Starts(), starts+i+1, "Starts behind", i)
		}
		starts = h.x.Starts()
		for i, f := range []func(){
			func() { h.x.Len() }, func() { h.x.Used() }, func() { h.x.Limit() }, func() { h.x.All() }, func() { stopped(h.x.All(), 1) },
			func() { stopped(h.x.All(), 99) }, func() { h.x.Needs(7) }, func() { h.x.Needs(6) }, func() { h.x.Each() }, func() { h.x.Clear() },
		} {
			f()
			same(t, h.x.Starts(), starts, "Starts behind", i)
		}
	}
}

// TestOperationsOfEach: each of its keys is inserted, till one is too many.
func TestOperationsOfEach(t *testing.T) {
	x := newTrie(t, 1, 68)
	same(t, x.Each(5, 5, 4), 2, "Each")
	same(t, x.Starts(), 3, "Starts behind Each of three")
	same(t, x.Each(5, 7, 4), 0, "Each")
	same(t, x.Starts(), 5, "Starts behind Each, full at the second")
}

func TestMeter(t *testing.T) {
	x := newTrie(t, 9, 400)
	own := x.Meter
	same(t, own != nil, true, "a meter")
	x.Each(5, 6, 7)
	x.Has(6)
	same(t, tell(own), steps{x.Taken(), x.Reads(), x.Calls(), x.Peak(), x.Starts()}, "the trie's methods")
	same(t, x.Starts(), 4, "Starts")
	reads, calls, peak := x.Reads(), x.Calls(), x.Peak()
	x.Start()
	same(t, tell(own), steps{0, reads, calls, peak, 5}, "steps behind Start")
	x.Read()
	x.Call()
	x.Call()
	same(t, tell(own), steps{3, reads + 1, calls + 2, max(peak, 3), 5}, "steps behind Read, Call, Call")
	x.Min()
	same(t, tell(own), steps{1, reads + 2, calls + 2, max(peak, 3), 6}, "steps behind Min")
	same(t, count.Sum(own), reads+calls+4, "Sum")
	same(t, count.Worst(own), x.Peak(), "Worst")
	x.Clear()
	same(t, tell(own), steps{1, reads + 2, calls + 2, max(peak, 3), 6}, "steps behind Clear")
	same(t, x.Meter, own, "the meter")
	same(t, tell(newTrie(t, 9, 40).Meter), steps{}, "steps of another")
}

func TestNil(t *testing.T) {
	var x *xfast.XFast
	all := x.All()
	for range 2 {
		for _, k := range append(about(0), about(greatest)...) {
			same(t, x.Insert(k), api.ErrNone, "nil Insert", k)
			same(t, x.Delete(k), api.ErrNone, "nil Delete", k)
			same(t, x.Has(k), false, "nil Has", k)
			same(t, find(x.Next(k)), found{}, "nil Next", k)
			same(t, find(x.Prev(k)), found{}, "nil Prev", k)
			same(t, x.Shared(k), 0, "nil Shared", k)
			same(t, x.Needs(k), 0, "nil Needs", k)
			same(t, x.Each(k, k, 5), 0, "nil Each", k)
		}
		same(t, find(x.Min()), found{}, "nil Min")
		same(t, find(x.Max()), found{}, "nil Max")
		same(t, x.Len()+x.Used()+x.Limit()+x.Each(), 0, "nil Len, Used, Limit, Each")
		list(t, slices.Collect(x.All()), nil, "nil All")
		list(t, slices.Collect(all), nil, "nil All, gone through again")
		x.Clear()
	}
}
