package yfast_test

import (
	"iter"
	"math"
	"math/bits"
	"slices"
	"testing"

	"stepstone/api"
	"stepstone/bucket"
	"stepstone/count"
	"stepstone/xfast"
	"stepstone/yfast"
)

const greatest = math.MaxUint64

// What the document says: how many keys a bucket has at most, below how many two are one, how much an insertion uses at most, and how many steps operations take at most; unbound is of those of which it says nothing.
const (
	most      = 128
	half      = 64
	more      = 68
	hasSteps  = 11
	nearSteps = 12
	endSteps  = 12
	unbound   = math.MaxInt
)

// same calls Helper where it fails alone, as others below that are called very often: it is slow.
func same[T comparable](t *testing.T, got, want T, what string, about ...any) {
	if got != want {
		t.Helper()
		t.Fatalf("%s %v: %v, not %v", what, about, got, want)
	}
}

// list holds lists against each other; long ones aren't told.
func list(t *testing.T, got, want []uint64, what string, about ...any) {
	if !slices.Equal(got, want) {
		t.Helper()
		t.Fatalf("%s %v: %v (%d), not %v (%d)", what, about, got[:min(len(got), 40)], len(got), want[:min(len(want), 40)], len(want))
	}
}

// found is what a call answers that may find nothing.
type found struct {
	key uint64
	ok  bool
}

func find(k uint64, ok bool) found { return found{k, ok} }

// steps is what a meter tells: Taken, Reads, Calls, Peak, Starts.
type steps [5]int

func tell(m *count.Meter) steps {
	return steps{m.Taken(), m.Reads(), m.Calls(), m.Peak(), m.Starts()}
}

// numbers answers a function that tells numbers below n, on and on, by the seed.
func numbers(seed uint64) func(n int) int {
	return func(n int) int {
		seed = seed*6364136223846793005 + 1442695040888963407
		return int(seed >> 33 % uint64(n))
	}
}

func shuffled(l []uint64, seed uint64) []uint64 {
	number, r := numbers(seed), slices.Clone(l)
	for i := range r {
		j := i + number(len(r)-i)
		r[i], r[j] = r[j], r[i]
	}
	return r
}

func reversed(l []uint64) []uint64 {
	r := slices.Clone(l)
	slices.Reverse(r)
	return r
}

func rising(l []uint64) []uint64 { return slices.Sorted(slices.Values(l)) }

// plain is a bucket as the document's words tell it.
type plain struct {
	rep  uint64
	keys []uint64
}

// model is a trie as the document's words tell it: a plain rising list of keys, and plain lists as buckets.
type model struct {
	limit   int
	keys    []uint64
	buckets []plain
}

func (m *model) reps() []uint64 {
	var l []uint64
	for _, b := range m.buckets {
		l = append(l, b.rep)
	}
	return l
}

// usedBy is what layer 14 uses for these: each key, and each prefix that a key has, which are those that it doesn't share with the one ahead of it.
func usedBy(reps []uint64) int {
	n := 0
	for i, r := range reps {
		if i == 0 {
			n += 66
		} else {
			n += 64 - bits.LeadingZeros64(r^reps[i-1]) + 1
		}
	}
	return n
}

func (m *model) used() int { return usedBy(m.reps()) + len(m.buckets) + len(m.keys) }

func (m *model) has(k uint64) bool {
	_, ok := slices.BinarySearch(m.keys, k)
	return ok
}

// place is that of the bucket with the greatest representative that isn't above k: -1, if there is none.
func (m *model) place(k uint64) int {
	n := -1
	for i, b := range m.buckets {
		if b.rep <= k {
			n = i
		}
	}
	return n
}

func with(l []uint64, k uint64) []uint64 { return rising(append(slices.Clone(l), k)) }

func without(l []uint64, k uint64) []uint64 {
	return slices.DeleteFunc(slices.Clone(l), func(n uint64) bool { return n == k })
}

// inserted is the trie with k, which isn't in it, as if there were room.
func (m *model) inserted(k uint64) *model {
	r := &model{limit: m.limit, keys: with(m.keys, k), buckets: slices.Clone(m.buckets)}
	if len(r.buckets) == 0 {
		r.buckets = []plain{{0, nil}}
	}
	i := r.place(k)
	l := with(r.buckets[i].keys, k)
	r.buckets[i].keys = l
	if len(l) > most {
		n := (len(l) + 1) / 2
		r.buckets[i].keys = l[:n]
		r.buckets = slices.Insert(r.buckets, i+1, plain{l[n], l[n:]})
	}
	return r
}

func (m *model) insert(k uint64) api.Errno {
	if m.has(k) {
		return api.ErrExists
	}
	r := m.inserted(k)
	if r.used() > m.limit {
		return api.ErrFull
	}
	*m = *r
	return api.OK
}

// joined tells whether the bucket and the one behind it are to be one, and makes them one.
func (m *model) joined(i int) bool {
	if i < 0 || i+1 >= len(m.buckets) {
		return false
	}
	a, b := m.buckets[i], m.buckets[i+1]
	if len(a.keys) > 0 && len(b.keys) > 0 && len(a.keys)+len(b.keys) > half {
		return false
	}
	m.buckets[i].keys = slices.Concat(a.keys, b.keys)
	m.buckets = slices.Delete(m.buckets, i+1, i+2)
	return true
}

func (m *model) delete(k uint64) api.Errno {
	if !m.has(k) {
		return api.ErrNone
	}
	m.keys = without(m.keys, k)
	i := m.place(k)
	m.buckets[i].keys = without(m.buckets[i].keys, k)
	if !m.joined(i) && !m.joined(i-1) && len(m.buckets[i].keys) == 0 {
		m.buckets = slices.Delete(m.buckets, i, i+1)
	}
	return api.OK
}

// at is the key at that place of the list.
func (m *model) at(i int) found {
	if i < 0 || i >= len(m.keys) {
		return found{}
	}
	return found{m.keys[i], true}
}

func (m *model) next(k uint64) found {
	i, _ := slices.BinarySearch(m.keys, k)
	return m.at(i)
}

func (m *model) prev(k uint64) found {
	i, ok := slices.BinarySearch(m.keys, k)
	if ok {
		return m.at(i)
	}
	return m.at(i - 1)
}

// each tells how many of l were new ahead of the first that there was no room for.
func (m *model) each(l []uint64) int {
	n := 0
	for _, k := range l {
		switch m.insert(k) {
		case api.OK:
			n++
		case api.ErrFull:
			return n
		}
	}
	return n
}

// sizes is how many keys each bucket has.
func (m *model) sizes() []uint64 {
	var l []uint64
	for _, b := range m.buckets {
		l = append(l, uint64(len(b.keys)))
	}
	return l
}

// held is a trie that is held against a model behind each call.
type held struct {
	t *testing.T
	y *yfast.YFast
	m *model
}

// seeds are some that change no answer.
func seeds() []uint64 { return []uint64{0, 1, 7, 1 << 63, greatest} }

func newTrie(t *testing.T, seed uint64, limit int) *yfast.YFast {
	t.Helper()
	y, e := yfast.New(seed, limit)
	if e != api.OK || y == nil {
		t.Fatalf("New %d, %d: %v, %v", seed, limit, y, e)
	}
	return y
}

func hold(t *testing.T, seed uint64, limit int) held {
	t.Helper()
	return held{t, newTrie(t, seed, limit), &model{limit: limit}}
}

// filled has the keys, inserted in this order.
func filled(t *testing.T, limit int, keys []uint64) held {
	t.Helper()
	h := hold(t, uint64(limit)*31+uint64(len(keys)), limit)
	for _, k := range keys {
		same(t, h.insert(k), api.OK, "Insert", k)
	}
	return h
}

// operation holds that f begins one operation, which takes at most so many steps.
func (h held) operation(most int, f func(), what string, about ...any) {
	starts, sum := h.y.Starts(), count.Sum(h.y.Meter)
	f()
	taken := h.y.Taken()
	began, all := h.y.Starts()-starts, count.Sum(h.y.Meter)-sum
	if taken > most || began != 1 || all != taken {
		h.t.Helper()
		h.t.Fatalf("%s %v: %d steps (in all: %d), at most %d; it began %d operations", what, about, taken, all, most, began)
	}
	h.behind(what, about...)
}

// apart holds that f begins no operation, and takes no steps: they would count to the operation before.
func (h held) apart(f func(), what string, about ...any) {
	told := tell(h.y.Meter)
	f()
	if now := tell(h.y.Meter); now != told {
		h.t.Helper()
		h.t.Fatalf("%s %v: steps %v, then %v", what, about, told, now)
	}
	h.behind(what, about...)
}

// behind holds what is told behind every call: Len, Used, Limit, Buckets; and what n keys use at most.
func (h held) behind(what string, about ...any) {
	got := [4]int{h.y.Len(), h.y.Used(), h.y.Limit(), h.y.Buckets()}
	want := [4]int{len(h.m.keys), h.m.used(), h.m.limit, len(h.m.buckets)}
	if got != want {
		h.t.Helper()
		h.t.Fatalf("Len, Used, Limit, Buckets behind %s %v: %v, not %v", what, about, got, want)
	}
	if got[1] > 4*got[0]+more || got[1] > got[2] || got[0] == 0 && got[1] > 0 {
		h.t.Helper()
		h.t.Fatalf("behind %s %v: %d keys use %d of %d", what, about, got[0], got[1], got[2])
	}
}

func (h held) insert(k uint64) api.Errno {
	h.t.Helper()
	used, want := h.y.Used(), h.m.insert(k)
	h.operation(unbound, func() { same(h.t, h.y.Insert(k), want, "Insert", k) }, "Insert", k)
	if n := h.y.Used() - used; n < 0 || n > more || want == api.OK && n == 0 || want != api.OK && n > 0 {
		h.t.Fatalf("Insert %d: %v; it uses %d more", k, want, n)
	}
	return want
}

func (h held) delete(k uint64) api.Errno {
	h.t.Helper()
	want := h.m.delete(k)
	h.operation(unbound, func() { same(h.t, h.y.Delete(k), want, "Delete", k) }, "Delete", k)
	return want
}

func (h held) has(k uint64) bool {
	h.t.Helper()
	want := h.m.has(k)
	h.operation(hasSteps, func() { same(h.t, h.y.Has(k), want, "Has", k) }, "Has", k)
	return want
}

func (h held) next(k uint64) found {
	h.t.Helper()
	want := h.m.next(k)
	h.operation(nearSteps, func() { same(h.t, find(h.y.Next(k)), want, "Next", k) }, "Next", k)
	return want
}

func (h held) prev(k uint64) found {
	h.t.Helper()
	want := h.m.prev(k)
	h.operation(nearSteps, func() { same(h.t, find(h.y.Prev(k)), want, "Prev", k) }, "Prev", k)
	return want
}

func (h held) min() found {
	h.t.Helper()
	want := h.m.at(0)
	h.operation(endSteps, func() { same(h.t, find(h.y.Min()), want, "Min") }, "Min")
	return want
}

func (h held) max() found {
	h.t.Helper()
	want := h.m.at(len(h.m.keys) - 1)
	h.operation(endSteps, func() { same(h.t, find(h.y.Max()), want, "Max") }, "Max")
	return want
}

func (h held) each(l ...uint64) int {
	h.t.Helper()
	handed := slices.Clone(l)
	want := h.m.each(l)
	same(h.t, h.y.Each(l...), want, "Each", len(l))
	list(h.t, l, handed, "what was handed to Each")
	h.behind("Each", len(l))
	return want
}

func (h held) all() []uint64 {
	h.t.Helper()
	h.apart(func() { list(h.t, slices.Collect(h.y.All()), h.m.keys, "All") }, "All")
	return h.m.keys
}

func (h held) clear() {
	h.t.Helper()
	h.m.keys, h.m.buckets = nil, nil
	h.apart(func() { h.y.Clear() }, "Clear")
}

// about are k, the keys beside it, and those that part from it in one bit.
func about(k uint64) []uint64 {
	l := []uint64{k - 1, k, k + 1}
	for i := range 64 {
		l = append(l, k^1<<i)
	}
	return l
}

// asked holds all that the trie answers about k.
func (h held) asked(k uint64) {
	h.t.Helper()
	h.has(k)
	h.next(k)
	h.prev(k)
}

// whole holds all that the trie tells.
func (h held) whole() {
	h.t.Helper()
	h.all()
	h.min()
	h.max()
	for _, k := range []uint64{0, 1, 1<<32 - 1, 1 << 32, 1<<63 - 1, 1 << 63, greatest - 1, greatest} {
		h.asked(k)
	}
	for _, k := range h.m.keys {
		h.asked(k - 1)
		h.asked(k)
		h.asked(k + 1)
	}
	for _, r := range h.m.reps() {
		for _, k := range about(r) {
			h.asked(k)
		}
	}
}

// stays holds that f changes nothing that the trie tells.
func (h held) stays(f func()) {
	h.t.Helper()
	keys, used, buckets := slices.Clone(h.m.keys), h.m.used(), h.m.sizes()
	f()
	list(h.t, h.m.keys, keys, "keys")
	list(h.t, h.m.sizes(), buckets, "buckets")
	same(h.t, h.m.used(), used, "used")
	h.all()
	h.min()
	h.max()
}

// remove deletes each of these.
func (h held) remove(l ...uint64) {
	h.t.Helper()
	for _, k := range l {
		same(h.t, h.delete(k), api.OK, "Delete", k)
	}
}

// single is one key for each bit, with that bit alone.
func single() []uint64 {
	var l []uint64
	for i := range 64 {
		l = append(l, 1<<i)
	}
	return l
}

// spread is n keys that are by apart, from from on.
func spread(from uint64, n int, by uint64) []uint64 {
	var l []uint64
	for i := range uint64(n) {
		l = append(l, from+i*by)
	}
	return l
}

// far is n keys far from each other, as an odd number's multiples are, modulo 2^64.
func far(n int) []uint64 { return spread(3, n, 0x9e37_79b9_7f4a_7c15) }

// mixed is n keys here and there, that part from each other in any bits.
func mixed(n int, seed uint64) []uint64 {
	number := numbers(seed)
	l := []uint64{0x0123_4567_89ab_cdef}
	for len(l) < n {
		k := l[number(len(l))] ^ 1<<number(64)
		if number(2) == 0 {
			k ^= uint64(number(256)) << number(57)
		}
		if !slices.Contains(l, k) {
			l = append(l, k)
		}
	}
	return l[:n]
}

// inverted is keys the other way round: what was above is below.
func inverted(l []uint64) []uint64 {
	var r []uint64
	for _, k := range l {
		r = append(r, ^k)
	}
	return r
}

func samples() map[string][]uint64 {
	return map[string][]uint64{
		"none":                      nil,
		"the least":                 {0},
		"the greatest":              {greatest},
		"both ends":                 {0, greatest},
		"beside the ends":           {0, 1, greatest - 1, greatest},
		"one":                       {7},
		"one less than a bucket's":  spread(9, most-1, 3),
		"a bucket's":                spread(0, most, 1),
		"one more than a bucket's":  spread(0, most+1, 1),
		"those of the top":          spread(greatest-2*most, 2*most+1, 1),
		"each bit alone, and not":   append(single(), inverted(single())...),
		"over an edge":              spread(1<<32-150, 300, 1),
		"by sevens":                 spread(0, 400, 7),
		"by great ways":             spread(5, 250, 1<<56),
		"far apart":                 far(500),
		"here and there":            mixed(300, 5),
		"many in one place, few in": append(spread(1<<40, 260, 1), mixed(40, 6)...),
	}
}

// wrongLimits are those that there can't be.
func wrongLimits() []int {
	return []int{math.MinInt, math.MinInt + 1, -1 << 32, -api.MaxCap, -68, -2, -1, api.MaxCap + 1, api.MaxCap + 2, 2 * api.MaxCap, 1 << 32, math.MaxInt - 1, math.MaxInt}
}

// P16.1

func TestNew(t *testing.T) {
	for _, seed := range seeds() {
		for _, limit := range []int{0, 1, 2, 65, 66, 67, 68, 69, 4096, api.MaxCap - 1, api.MaxCap} {
			h := hold(t, seed, limit)
			same(t, tell(h.y.Meter), steps{}, "steps at first")
			h.behind("New", seed, limit)
			h.whole()
		}
	}
}

func TestLimitsThereCantBe(t *testing.T) {
	for _, seed := range seeds() {
		for _, limit := range wrongLimits() {
			y, e := yfast.New(seed, limit)
			same(t, e, api.ErrArg, "New", seed, limit)
			same(t, y, nil, "New", seed, limit)
		}
	}
}

// TestExample: 129 keys one by one are two buckets, whichever they are.
func TestExample(t *testing.T) {
	for _, l := range [][]uint64{spread(0, most+1, 1), far(most + 1), spread(greatest-most, most+1, 1), mixed(most+1, 3)} {
		for _, order := range [][]uint64{l, rising(l), reversed(rising(l)), shuffled(l, 5)} {
			h := hold(t, 42, api.MaxCap)
			for i, k := range order {
				same(t, h.insert(k), api.OK, "Insert", k)
				same(t, h.y.Buckets(), 1+i/most, "Buckets of", i+1)
			}
			list(t, h.m.sizes(), []uint64{65, 64}, "buckets")
			h.whole()
		}
	}
}

func TestSamples(t *testing.T) {
	for name, l := range samples() {
		for i, seed := range seeds() {
			h := hold(t, seed, api.MaxCap)
			for _, k := range [][]uint64{l, rising(l), reversed(rising(l)), shuffled(l, 7), shuffled(l, 8)}[i] {
				same(t, h.insert(k), api.OK, "Insert", k)
			}
			list(t, h.all(), rising(l), name)
			h.whole()
			for _, k := range l {
				same(t, h.insert(k), api.ErrExists, "Insert", k)
			}
			h.all()
		}
	}
}

// TestSamplesFall: what is left is asked on the way, too.
func TestSamplesFall(t *testing.T) {
	for _, l := range samples() {
		for seed, order := range [][]uint64{l, rising(l), reversed(rising(l)), shuffled(l, 2), shuffled(l, 3)} {
			h := hold(t, uint64(seed), api.MaxCap)
			same(t, h.each(shuffled(l, 1)...), len(l), "Each")
			for i, k := range order {
				same(t, h.delete(k), api.OK, "Delete", k)
				h.asked(k)
				if i%20 == 0 {
					h.all()
					h.min()
					h.max()
				}
				if i%100 == 0 {
					h.whole()
				}
			}
			same(t, h.y.Used()+h.y.Len()+h.y.Buckets(), 0, "Used, Len, Buckets at last")
			h.whole()
			same(t, h.each(l...), len(l), "Each, behind the last one")
			h.all()
		}
	}
}

func TestNextAndPrev(t *testing.T) {
	h := filled(t, api.MaxCap, []uint64{70, 5, 1 << 40, 9, 1 << 63})
	for k, want := range map[uint64]uint64{0: 5, 5: 5, 6: 9, 9: 9, 10: 70, 70: 70, 71: 1 << 40, 1<<40 - 1: 1 << 40, 1 << 40: 1 << 40, 1<<40 + 1: 1 << 63, 1<<63 - 1: 1 << 63, 1 << 63: 1 << 63} {
		same(t, find(h.y.Next(k)), found{want, true}, "Next", k)
	}
	for k, want := range map[uint64]uint64{5: 5, 8: 5, 9: 9, 69: 9, 70: 70, 127: 70, 1<<40 - 1: 70, 1 << 40: 1 << 40, 1<<63 - 1: 1 << 40, 1 << 63: 1 << 63, 1<<63 + 1: 1 << 63, greatest: 1 << 63} {
		same(t, find(h.y.Prev(k)), found{want, true}, "Prev", k)
	}
	for _, k := range []uint64{1<<63 + 1, 1<<63 + 64, greatest} {
		same(t, find(h.y.Next(k)), found{}, "Next", k)
	}
	for _, k := range []uint64{0, 1, 4} {
		same(t, find(h.y.Prev(k)), found{}, "Prev", k)
	}
}

// TestOverTheEdgesOfBuckets: what is beside a key may be in the bucket beside its own, above and below it.
func TestOverTheEdgesOfBuckets(t *testing.T) {
	h := filled(t, api.MaxCap, spread(1000, 400, 10))
	list(t, h.m.reps(), []uint64{0, 1650, 2300, 2950, 3600, 4250}, "representatives")
	for i, r := range h.m.reps()[1:] {
		same(t, find(h.y.Next(r-9)), found{r, true}, "Next over an edge", i)
		same(t, find(h.y.Next(r-1)), found{r, true}, "Next over an edge", i)
		same(t, find(h.y.Prev(r-1)), found{r - 10, true}, "Prev of what is below an edge", i)
		h.remove(r)
		same(t, find(h.y.Prev(r)), found{r - 10, true}, "Prev over an edge", i)
		same(t, find(h.y.Prev(r+9)), found{r - 10, true}, "Prev over an edge", i)
		same(t, find(h.y.Next(r-9)), found{r + 10, true}, "Next over an edge", i)
		same(t, find(h.y.Next(r)), found{r + 10, true}, "Next of what is above an edge", i)
	}
	h.whole()
	same(t, len(h.m.buckets), 6, "buckets")
}

func TestTheFirstAndTheLastKey(t *testing.T) {
	h := hold(t, 6, 69)
	none := found{}
	same(t, h.insert(greatest), api.OK, "Insert")
	same(t, h.next(0), found{greatest, true}, "Next")
	same(t, h.next(greatest), found{greatest, true}, "Next")
	same(t, h.prev(greatest-1), none, "Prev")
	same(t, h.insert(0), api.OK, "Insert")
	same(t, h.prev(0), found{0, true}, "Prev")
	same(t, h.next(1), found{greatest, true}, "Next")
	same(t, h.prev(greatest-1), found{0, true}, "Prev")
	same(t, h.min(), found{0, true}, "Min")
	same(t, h.max(), found{greatest, true}, "Max")
	same(t, h.y.Used(), 69, "Used")
	same(t, h.insert(1), api.ErrFull, "Insert")
	same(t, h.delete(0), api.OK, "Delete")
	same(t, h.min(), found{greatest, true}, "Min")
	same(t, h.insert(1), api.OK, "Insert")
	same(t, h.delete(greatest), api.OK, "Delete")
	same(t, h.max(), found{1, true}, "Max")
	same(t, h.next(2), none, "Next")
	same(t, h.prev(0), none, "Prev")
	same(t, h.delete(1), api.OK, "Delete")
	same(t, h.min(), none, "Min")
	same(t, h.max(), none, "Max")
	same(t, h.y.Used(), 0, "Used")
}

// TestEmpty: of none there is nothing to find and nothing to delete, at first and behind the last key.
func TestEmpty(t *testing.T) {
	for _, limit := range []int{0, 1, 67, 68, 500, api.MaxCap} {
		h := hold(t, 8, limit)
		for range 3 {
			for _, k := range append(about(0), about(greatest)...) {
				h.stays(func() { same(t, h.delete(k), api.ErrNone, "Delete", k) })
				same(t, h.has(k), false, "Has", k)
				same(t, h.next(k), found{}, "Next", k)
				same(t, h.prev(k), found{}, "Prev", k)
			}
			if h.insert(1<<63) == api.OK {
				same(t, h.delete(1<<63), api.OK, "Delete")
			}
		}
	}
}

// TestDeleteOfOthers: of a key that isn't in it nothing goes, how near it may be.
func TestDeleteOfOthers(t *testing.T) {
	for _, l := range [][]uint64{{0}, {5}, {0x0123_4567_89ab_cdef, greatest}, {0, 9, greatest}, spread(10, 200, 3), far(150)} {
		h := filled(t, api.MaxCap, l)
		for _, k := range append(h.m.reps(), l[len(l)-1], l[len(l)/2]) {
			for _, o := range about(k) {
				if !slices.Contains(l, o) {
					h.stays(func() { same(t, h.delete(o), api.ErrNone, "Delete", o) })
				}
			}
		}
		h.whole()
		for _, k := range l {
			same(t, h.insert(k), api.ErrExists, "Insert", k)
			same(t, h.delete(k), api.OK, "Delete", k)
			same(t, h.delete(k), api.ErrNone, "Delete", k)
		}
		h.whole()
	}
}

// TestLimitsWithoutAKey: a representative uses 66, its bucket and the key itself one each.
func TestLimitsWithoutAKey(t *testing.T) {
	for _, limit := range []int{0, 1, 2, 65, 66, 67} {
		h := hold(t, 9, limit)
		for _, k := range append(about(0), about(0x0123_4567_89ab_cdef)...) {
			same(t, h.insert(k), api.ErrFull, "Insert", k)
			same(t, h.delete(k), api.ErrNone, "Delete", k)
			same(t, h.each(k, k), 0, "Each", k)
			h.all()
			h.asked(k)
		}
	}
}

// TestLimitsOfFewKeys: each further one uses one more.
func TestLimitsOfFewKeys(t *testing.T) {
	for n := 1; n <= 5; n++ {
		for _, k := range []uint64{0, 9, 1 << 32, 1 << 63, greatest - 20} {
			h := hold(t, k, 67+n)
			for range 2 {
				l := spread(k, n, 2)
				same(t, h.each(l...), n, "Each")
				for _, o := range about(k) {
					if !slices.Contains(l, o) {
						h.stays(func() { same(t, h.insert(o), api.ErrFull, "Insert", o) })
					}
				}
				for _, o := range l {
					same(t, h.insert(o), api.ErrExists, "Insert, full", o)
				}
				h.whole()
				h.remove(k)
				same(t, h.insert(^k), api.OK, "Insert", ^k)
				h.remove(^k)
				h.remove(l[1:]...)
			}
		}
	}
}

// TestFull: whatever the limit is, just what is above it is refused, and when keys go there is room again.
func TestFull(t *testing.T) {
	for _, l := range [][]uint64{spread(0, 300, 1), far(300), spread(greatest-400, 280, 1), mixed(300, 2)} {
		for limit := 60; limit < 700; limit += 37 {
			h := hold(t, uint64(limit), limit)
			for _, k := range l {
				h.insert(k)
			}
			h.all()
			for _, k := range l {
				h.delete(k)
				h.insert(l[0])
				h.insert(k)
			}
			h.all()
			h.min()
			h.max()
		}
	}
}

// TestFullChangesNothing, to the last one, also where a bucket would be split: one less is too few, and what is there already isn't kept out.
func TestFullChangesNothing(t *testing.T) {
	for _, l := range [][]uint64{spread(0, 200, 1), far(200), spread(7, 200, 1<<55), mixed(200, 4), reversed(spread(1<<60, 200, 9))} {
		for _, n := range []int{1, 2, 64, most - 1, most, most + 1, 190, 192, 193, 199} {
			o := filled(t, api.MaxCap, l[:n])
			used := o.m.used()
			all := o.m.inserted(l[n]).used()
			for _, limit := range []int{used, used + 1, (used + all) / 2, all - 2, all - 1} {
				if limit < used || limit >= all {
					continue
				}
				h := filled(t, limit, l[:n])
				h.stays(func() { same(t, h.insert(l[n]), api.ErrFull, "Insert", l[n], "limit", limit) })
				h.stays(func() { same(t, h.each(l[n], l[n]), 0, "Each", l[n], "limit", limit) })
				for _, k := range l[:n] {
					same(t, h.insert(k), api.ErrExists, "Insert", k, "limit", limit)
				}
				same(t, h.delete(l[n]), api.ErrNone, "Delete", l[n])
				h.asked(l[n])
				h.all()
			}
			h := filled(t, all, l[:n+1])
			same(t, h.y.Used(), all, "Used")
		}
	}
}

// TestFullOfSplits: where one bucket can't be split, another one may have room for a key.
func TestFullOfSplits(t *testing.T) {
	l := spread(0, most+1, 2)
	// A split of the first bucket needs eight prefixes for 65 and its link, a bucket and the key: one more than there is.
	h := filled(t, 269+9, l)
	list(t, h.m.reps(), []uint64{0, 130}, "representatives")
	same(t, h.each(spread(1, 63, 2)...), 63, "Each of what the first bucket has room for")
	list(t, h.m.sizes(), []uint64{most, 64}, "buckets")
	same(t, h.y.Used(), 66+8+1+2+most+64, "Used")
	h.stays(func() { same(t, h.insert(127), api.ErrFull, "Insert of what would split a bucket") })
	h.stays(func() { same(t, h.insert(129), api.ErrFull, "Insert of what would split a bucket") })
	same(t, h.each(131, 127), 1, "Each of what the second bucket has room for, and of what would split the first")
	same(t, h.insert(255), api.OK, "Insert, into the second bucket")
	h.remove(1)
	same(t, h.insert(127), api.OK, "Insert, into the first bucket again")
	h.whole()
}

// TestGreatestLimit: of keys one behind the other each bucket has 65, but the last one.
func TestGreatestLimit(t *testing.T) {
	y := newTrie(t, 1, api.MaxCap)
	l := spread(0, api.MaxCap, 1)
	n := y.Each(l...)
	buckets := func(keys int) int { return (keys-64)/65 + 1 }
	used := func(keys int) int {
		return usedBy(spread(0, buckets(keys), 65)) + buckets(keys) + keys
	}
	same(t, buckets(most)*10+buckets(most+1), 12, "buckets of Most keys, and of one more")
	same(t, y.Len(), n, "Len")
	same(t, y.Used(), used(n), "Used")
	same(t, y.Buckets(), buckets(n), "Buckets")
	same(t, used(n) <= api.MaxCap && used(n+1) > api.MaxCap, true, "full of", n)
	same(t, y.Insert(l[n]), api.ErrFull, "Insert", l[n])
	same(t, y.Insert(greatest), api.ErrFull, "Insert")
	same(t, y.Insert(l[n-1]), api.ErrExists, "Insert")
	list(t, slices.Collect(y.All()), l[:n], "All")
	for i := n - 2; i > 0; i -= 1001 {
		same(t, y.Delete(l[i]), api.OK, "Delete", i)
		same(t, find(y.Next(l[i])), found{l[i] + 1, true}, "Next", i)
		same(t, find(y.Prev(l[i])), found{l[i] - 1, true}, "Prev", i)
		same(t, y.Insert(l[i]), api.OK, "Insert", i)
	}
	same(t, find(y.Max()), found{l[n-1], true}, "Max")
	same(t, find(y.Next(l[n-1]+1)), found{}, "Next")
	same(t, y.Delete(l[n-1]), api.OK, "Delete")
	same(t, y.Used(), used(n)-1, "Used")
	y.Clear()
	same(t, y.Used()+y.Len()+y.Buckets(), 0, "Used, Len, Buckets behind Clear")
	same(t, y.Limit(), api.MaxCap, "Limit")
	same(t, y.Insert(greatest), api.OK, "Insert")
	list(t, slices.Collect(y.All()), []uint64{greatest}, "All")
}

// TestGreatestLimitToTheLast: all that may be used is.
func TestGreatestLimitToTheLast(t *testing.T) {
	y := newTrie(t, 2, api.MaxCap)
	l := far(1 << 20)
	n := y.Each(l...)
	same(t, n < len(l), true, "full")
	rest := l[n:]
	for y.Used() < api.MaxCap {
		// What would split a bucket is refused, others aren't.
		if y.Insert(rest[0]) == api.OK {
			n++
		}
		rest = rest[1:]
	}
	same(t, y.Len(), n, "Len, full")
	same(t, y.Insert(l[0]^1), api.ErrFull, "Insert, full")
	same(t, y.Has(l[0]^1), false, "Has of what was refused")
	same(t, y.Insert(l[0]), api.ErrExists, "Insert, full")
	same(t, y.Delete(l[0]), api.OK, "Delete")
	same(t, y.Used(), api.MaxCap-1, "Used behind Delete")
	same(t, y.Insert(l[0]^1), api.OK, "Insert, with room again")
	same(t, y.Used(), api.MaxCap, "Used, full again")
	all := slices.Collect(y.All())
	same(t, len(all), n, "how many All tells")
	same(t, slices.IsSorted(all), true, "whether All rises")
}

func TestEach(t *testing.T) {
	h := hold(t, 3, 68+5)
	same(t, h.each(), 0, "Each of none")
	same(t, h.each([]uint64{}...), 0, "Each of none")
	same(t, h.each(5), 1, "Each of one")
	same(t, h.each(5), 0, "Each of what is there")
	same(t, h.each(7, 5, 7, 4, 4, 5), 2, "Each of some twice")
	same(t, h.each(5, 1<<63, 1<<63, 9, 7), 2, "Each of some that are there")
	// What is full ends it: 3 is behind.
	same(t, h.each(5, 6, 6, 8, 3), 1, "Each till it's full")
	list(t, h.all(), []uint64{4, 5, 6, 7, 9, 1 << 63}, "All")
	same(t, h.each(5, 7, 4, 1<<63), 0, "Each of what is there")
	same(t, h.each(3, 8), 0, "Each, full at once")
	h.remove(1<<63, 6)
	same(t, h.each(5, 1<<62, 1<<62, 9, 2, 1, 0), 2, "Each, with room again")
	h.whole()
}

func TestEachOfSamples(t *testing.T) {
	for _, l := range samples() {
		twice := append(slices.Clone(l), l...)
		for _, limit := range []int{0, 67, 68, 69, 130, 195, 196, 300, api.MaxCap} {
			for seed := range uint64(2) {
				h := hold(t, seed, limit)
				h.each(shuffled(twice, seed)...)
				h.each(shuffled(twice, seed+9)...)
				h.all()
			}
		}
		h := hold(t, 4, api.MaxCap)
		same(t, h.each(twice...), len(l), "Each")
		h.whole()
	}
}

// TestEachTillASplit: Each ends where a bucket would be split, though there's room for keys that go into others.
func TestEachTillASplit(t *testing.T) {
	h := hold(t, 3, 67+most+53)
	l := append(spread(1<<50, most, 1), 9, 1<<50, 1)
	same(t, h.each(l...), most, "Each")
	list(t, h.all(), l[:most], "All")
	h.remove(1 << 50)
	same(t, h.each(l...), 1, "Each")
	list(t, h.all(), l[:most], "All")
	o := hold(t, 3, 67+most+54+1)
	same(t, o.each(l...), most+2, "Each with room for a split")
	list(t, o.m.reps(), []uint64{0, 1<<50 + 64}, "representatives")
}

// TestHandedIn: what is handed in is neither changed nor kept, and its spare room isn't either.
func TestHandedIn(t *testing.T) {
	room := spread(1, 400, 77)
	want := slices.Clone(room)
	h := hold(t, 4, api.MaxCap)
	same(t, h.y.Each(room[:300]...), 300, "Each")
	list(t, room, want, "what was handed in")
	for i := range room {
		room[i] = 3
	}
	list(t, slices.Collect(h.y.All()), want[:300], "All")
	l := slices.Collect(h.y.All())
	clear(l[:cap(l)])
	list(t, slices.Collect(h.y.All()), want[:300], "All")
}

// stopped is what s tells to one who stops it behind n.
func stopped(s iter.Seq[uint64], n int) []uint64 {
	var l []uint64
	s(func(k uint64) bool {
		l = append(l, k)
		return len(l) < n
	})
	return l
}

func TestAll(t *testing.T) {
	for name, keys := range samples() {
		h := hold(t, 12, api.MaxCap)
		all := h.y.All()
		list(t, slices.Collect(all), nil, "All of none")
		h.each(keys...)
		want := rising(keys)
		for range 2 {
			list(t, slices.Collect(all), want, "All, gone through again", name)
			list(t, slices.Collect(h.y.All()), want, "All", name)
		}
		for n := 1; n <= len(want); n++ {
			list(t, stopped(all, n), want[:n], "All, stopped", name)
		}
		for i, k := range want {
			h.delete(k)
			list(t, slices.Collect(all), want[i+1:], "All behind Delete", name)
		}
		h.each(keys...)
		list(t, slices.Collect(all), want, "All behind Each", name)
		h.clear()
		list(t, slices.Collect(all), nil, "All behind Clear", name)
	}
}

func TestAllWithinItself(t *testing.T) {
	for _, l := range [][]uint64{spread(60, 9, 1), far(200)} {
		h := filled(t, api.MaxCap, l)
		want := rising(l)
		all := h.y.All()
		var got []uint64
		for k := range all {
			got = append(got, k)
			list(t, slices.Collect(all), want, "All within itself")
			list(t, stopped(all, 2), want[:2], "All within itself, stopped")
			h.asked(k)
			h.max()
		}
		list(t, got, want, "All")
	}
}

func TestClear(t *testing.T) {
	for _, l := range samples() {
		h := hold(t, 13, 4*len(l)+more)
		h.clear()
		h.whole()
		for seed := range uint64(3) {
			same(t, h.each(shuffled(l, seed)...), len(l), "Each")
			if seed == 1 && len(l) > 1 {
				h.remove(l[:len(l)/2]...)
			}
			h.clear()
			h.whole()
			for _, k := range l {
				h.asked(k)
				same(t, h.delete(k), api.ErrNone, "Delete", k)
			}
			h.clear()
			same(t, h.insert(77), api.OK, "Insert")
			h.whole()
			h.clear()
		}
		h.each(l...)
		h.whole()
	}
}

func TestTriesStandApart(t *testing.T) {
	l := far(300)
	a, b := hold(t, 7, 2000), hold(t, 7, 1000)
	same(t, a.each(l...), 300, "Each")
	b.whole()
	same(t, b.each(l[100:250]...), 150, "Each")
	a.remove(l[120:150]...)
	a.whole()
	b.whole()
	a.clear()
	b.whole()
	b.remove(l[200])
	same(t, tell(a.y.Meter) == tell(b.y.Meter), false, "meters")
	a.whole()
	b.whole()
}

// TestOtherWays: what is found hangs on the keys alone, not on the seed, nor on which buckets they are in.
func TestOtherWays(t *testing.T) {
	l, others := mixed(300, 6), spread(0x2222, 290, 1<<20+16)
	for _, seed := range seeds() {
		a, b := hold(t, seed, api.MaxCap), hold(t, seed+1, api.MaxCap)
		a.each(l...)
		b.each(others...)
		b.each(reversed(l)...)
		b.remove(others...)
		list(t, b.all(), a.all(), "All")
		for _, k := range append(spread(0, 200, 0x0123_4567_89ab_cdef), l...) {
			same(t, find(a.y.Next(k)), find(b.y.Next(k)), "Next", k)
			same(t, find(a.y.Prev(k)), find(b.y.Prev(k)), "Prev", k)
			same(t, a.y.Has(k), b.y.Has(k), "Has", k)
		}
	}
}

// TestVeryMany: keys of many buckets come in any order, and go in another one.
func TestVeryMany(t *testing.T) {
	n := 1 << 17
	for name, l := range map[string][]uint64{"one behind the other": spread(1<<63-1<<16, n, 1), "far apart": far(n)} {
		y := newTrie(t, uint64(n), api.MaxCap)
		same(t, y.Each(shuffled(l, 1)...), n, "Each", name)
		want := rising(l)
		list(t, slices.Collect(y.All()), want, "All", name)
		for i, k := range want[1:] {
			same(t, find(y.Next(want[i]+1)), found{k, true}, "Next", name)
			same(t, find(y.Prev(k-1)), found{want[i], true}, "Prev", name)
		}
		for i, k := range shuffled(l, 2) {
			same(t, y.Delete(k), api.OK, "Delete", k)
			same(t, y.Len(), n-i-1, "Len", name)
			if used := y.Used(); used > 4*(n-i-1)+more {
				t.Fatalf("%s: %d keys use %d", name, n-i-1, used)
			}
		}
		same(t, y.Used()+y.Buckets(), 0, "Used, Buckets at last", name)
	}
}

// P16.2

// TestUsed is counted by hand here, so that the model is held against the document, too.
func TestUsed(t *testing.T) {
	for _, c := range []struct {
		keys          []uint64
		buckets, used int
	}{
		{nil, 0, 0},
		{[]uint64{0}, 1, 68},
		{[]uint64{7}, 1, 68},
		{[]uint64{greatest}, 1, 68},
		{[]uint64{5, 4}, 1, 69},
		{[]uint64{0, greatest}, 1, 69},
		{spread(0, most, 1), 1, 67 + most},
		{far(most), 1, 67 + most},
		// The second one is 65, which has seven prefixes that 0 hasn't.
		{spread(0, most+1, 1), 2, 66 + 7 + 1 + 2 + most + 1},
		// 66, likewise; 1<<63 + 65, which shares none but the empty one; 1<<32 + 65.
		{spread(1, most+1, 1), 2, 66 + 7 + 1 + 2 + most + 1},
		{spread(1<<63, most+1, 1), 2, 66 + 64 + 1 + 2 + most + 1},
		{spread(1<<32, most+1, 1), 2, 66 + 33 + 1 + 2 + most + 1},
		{spread(greatest-most, most+1, 1), 2, 66 + 64 + 1 + 2 + most + 1},
	} {
		for _, order := range [][]uint64{c.keys, reversed(c.keys), shuffled(c.keys, 4)} {
			h := filled(t, c.used, order)
			same(t, h.y.Used(), c.used, "Used", c.used)
			same(t, h.y.Buckets(), c.buckets, "Buckets", c.used)
			h.all()
			o := newTrie(t, 3, max(c.used-1, 0))
			same(t, o.Each(order...) < len(order), c.used > 0, "Each with room for one less", c.used)
		}
	}
	// 130 parts from 65, and from 66, in the eighth bit from behind.
	h := filled(t, api.MaxCap, spread(0, 194, 1))
	list(t, h.m.reps(), []uint64{0, 65, 130}, "representatives, rising")
	same(t, h.y.Used(), 66+8+9+3+194, "Used, rising")
	h = filled(t, api.MaxCap, reversed(spread(0, 194, 1)))
	list(t, h.m.reps(), []uint64{0, 66, 130}, "representatives, falling")
	same(t, h.y.Used(), 66+8+9+3+194, "Used, falling")
}

// usedPlainly is what layer 14's words say, from a plain table of prefixes.
func usedPlainly(reps []uint64) int {
	type prefix struct {
		bits  int
		first uint64
	}
	have := map[prefix]int{}
	for _, r := range reps {
		for n := range 65 {
			have[prefix{n, r &^ (greatest >> n)}]++
		}
	}
	return len(have) + len(reps)
}

// TestRepresentativesAsLayer14Keeps: what they use is what an x-fast trie of them uses.
func TestRepresentativesAsLayer14Keeps(t *testing.T) {
	for name, l := range samples() {
		h := hold(t, 4, api.MaxCap)
		for i, k := range append(shuffled(l, 6), shuffled(l, 7)...) {
			if i < len(l) {
				h.insert(k)
			} else {
				h.delete(k)
			}
			if i%10 == 0 {
				x, _ := xfast.New(1, api.MaxCap)
				x.Each(h.m.reps()...)
				same(t, h.y.Used()-h.y.Buckets()-h.y.Len(), x.Used(), "Used", name, i)
				same(t, usedPlainly(h.m.reps()), x.Used(), "Used, counted plainly", name, i)
			}
		}
	}
}

// TestSplit: wherever the key is that is one too many, the first half is the greater one.
func TestSplit(t *testing.T) {
	l := spread(1<<40, most+1, 2)
	for i, k := range l {
		h := filled(t, api.MaxCap, slices.Delete(slices.Clone(l), i, i+1))
		same(t, h.y.Buckets(), 1, "Buckets", i)
		same(t, h.insert(k), api.OK, "Insert", i)
		list(t, h.m.sizes(), []uint64{65, 64}, "buckets", i)
		list(t, h.m.reps(), []uint64{0, l[65]}, "representatives", i)
		same(t, h.y.Buckets(), 2, "Buckets", i)
		h.all()
	}
}

// TestKeysBelowAll: they go into the bucket of representative 0.
func TestKeysBelowAll(t *testing.T) {
	h := filled(t, api.MaxCap, spread(1<<40, most+1, 1))
	second := h.m.reps()[1]
	for i := range uint64(most - 65) {
		used := h.y.Used()
		same(t, h.insert(1<<39-i), api.OK, "Insert")
		same(t, h.y.Used(), used+1, "Used")
		same(t, h.y.Buckets(), 2, "Buckets")
	}
	same(t, h.insert(0), api.OK, "Insert of one more")
	list(t, h.m.sizes(), []uint64{65, 64, 64}, "buckets")
	list(t, h.m.reps(), []uint64{0, 1<<40 + 1, second}, "representatives")
	h.whole()
}

// TestRepresentativeComesBack: a key that is a representative goes, the representative stays, and the key goes into its bucket again.
func TestRepresentativeComesBack(t *testing.T) {
	h := filled(t, api.MaxCap, spread(0, most+1, 1))
	for range 3 {
		used := h.y.Used()
		h.remove(65)
		same(t, h.y.Used(), used-1, "Used")
		same(t, h.has(65), false, "Has")
		same(t, h.next(65), found{66, true}, "Next")
		same(t, h.prev(65), found{64, true}, "Prev")
		same(t, h.insert(65), api.OK, "Insert")
		same(t, h.y.Used(), used, "Used")
		list(t, h.m.sizes(), []uint64{65, 64}, "buckets")
	}
	// If 65 weren't in the second bucket, that would be empty now.
	h.remove(spread(66, 63, 1)...)
	same(t, h.y.Buckets(), 2, "Buckets")
	h.remove(64)
	same(t, h.y.Buckets(), 2, "Buckets of 65 keys")
	h.remove(63)
	same(t, h.y.Buckets(), 1, "Buckets of 64 keys")
	h.whole()
}

// three has three buckets: of 65, 65 and 64 keys, the least of which are first, second and third.
func three(t *testing.T) held {
	t.Helper()
	h := hold(t, 5, api.MaxCap)
	for _, k := range []uint64{1 << 20, 1 << 40, 1 << 60} {
		same(t, h.each(spread(k, 65, 1)...), 65, "Each")
	}
	h.remove(1<<60 + 64)
	list(t, h.m.sizes(), []uint64{65, 65, 64}, "buckets")
	list(t, h.m.reps(), []uint64{0, 1 << 40, 1 << 60}, "representatives")
	return h
}

// usedOf is what buckets of these representatives use, with so many keys.
func usedOf(keys int, reps ...uint64) int { return usedPlainly(reps) + len(reps) + keys }

// TestEmptied: the first bucket emptied, one between, the last one; the lesser representative stays.
func TestEmptied(t *testing.T) {
	for i, c := range []struct {
		from   uint64
		keys   int
		before []uint64
		behind []uint64
	}{
		{1 << 20, 65, []uint64{0, 1 << 40, 1 << 60}, []uint64{0, 1 << 60}},
		{1 << 40, 65, []uint64{0, 1 << 40, 1 << 60}, []uint64{0, 1 << 40}},
		{1 << 60, 64, []uint64{0, 1 << 40, 1 << 60}, []uint64{0, 1 << 40}},
	} {
		for _, order := range []func([]uint64) []uint64{rising, reversed, func(l []uint64) []uint64 { return shuffled(l, 5) }} {
			h := three(t)
			l := order(spread(c.from, c.keys, 1))
			h.remove(l[1:]...)
			same(t, h.y.Used(), usedOf(194-c.keys+1, c.before...), "Used with one key", i)
			h.remove(l[0])
			list(t, h.m.reps(), c.behind, "representatives", i)
			same(t, h.y.Used(), usedOf(194-c.keys, c.behind...), "Used without a key", i)
			h.whole()
			same(t, h.each(l...), c.keys, "Each", i)
			h.whole()
		}
	}
}

// TestFirstEmptied: its representative, which is 0, is that of the bucket behind it: so keys below all have one.
func TestFirstEmptied(t *testing.T) {
	h := filled(t, api.MaxCap, spread(1000, most+1, 1))
	h.remove(spread(1000, 65, 1)...)
	list(t, h.m.reps(), []uint64{0}, "representatives")
	same(t, h.y.Buckets(), 1, "Buckets")
	same(t, h.prev(1064), found{}, "Prev")
	same(t, h.next(0), found{1065, true}, "Next")
	same(t, h.insert(5), api.OK, "Insert below all")
	same(t, h.min(), found{5, true}, "Min")
	same(t, h.each(spread(6, 64, 1)...), 64, "Each")
	list(t, h.m.reps(), []uint64{0, 1065}, "representatives")
	h.whole()
}

// few has three buckets of so many keys, each of which has at least one, and two beside each other more than half of Most.
func few(t *testing.T, a, b, c int) held {
	t.Helper()
	h := three(t)
	for i, n := range []int{a, b, c} {
		from := []uint64{1 << 20, 1 << 40, 1 << 60}[i]
		size := []int{65, 65, 64}[i]
		h.remove(spread(from+uint64(n), size-n, 1)...)
	}
	list(t, h.m.sizes(), []uint64{uint64(a), uint64(b), uint64(c)}, "buckets")
	same(t, h.y.Used(), usedOf(a+b+c, 0, 1<<40, 1<<60), "Used")
	return h
}

// TestTogether: two buckets that have just half of Most together are one, with the one behind first, with the one ahead else; those with one more aren't.
func TestTogether(t *testing.T) {
	for i, c := range []struct {
		sizes [3]int
		key   uint64
		then  []uint64
		reps  []uint64
	}{
		// With the one behind.
		{[3]int{40, 25, 60}, 1 << 20, []uint64{64, 60}, []uint64{0, 1 << 60}},
		{[3]int{60, 40, 25}, 1 << 40, []uint64{60, 64}, []uint64{0, 1 << 40}},
		{[3]int{60, 64, 1}, 1 << 40, []uint64{60, 64}, []uint64{0, 1 << 40}},
		{[3]int{1, 64, 60}, 1 << 20, []uint64{64, 60}, []uint64{0, 1 << 60}},
		// With the one ahead.
		{[3]int{40, 25, 60}, 1 << 40, []uint64{64, 60}, []uint64{0, 1 << 60}},
		{[3]int{60, 40, 25}, 1 << 60, []uint64{60, 64}, []uint64{0, 1 << 40}},
		{[3]int{1, 64, 60}, 1 << 40, []uint64{64, 60}, []uint64{0, 1 << 60}},
		{[3]int{65, 64, 1}, 1 << 60, []uint64{65, 64}, []uint64{0, 1 << 40}},
		// With the one behind, though with the one ahead, too.
		{[3]int{40, 25, 40}, 1 << 40, []uint64{40, 64}, []uint64{0, 1 << 40}},
		{[3]int{64, 1, 64}, 1 << 40, []uint64{64, 64}, []uint64{0, 1 << 40}},
		{[3]int{33, 32, 33}, 1<<40 + 31, []uint64{33, 64}, []uint64{0, 1 << 40}},
		// With none: together they have one more.
		{[3]int{41, 25, 60}, 1 << 20, []uint64{40, 25, 60}, []uint64{0, 1 << 40, 1 << 60}},
		{[3]int{41, 25, 60}, 1 << 40, []uint64{41, 24, 60}, []uint64{0, 1 << 40, 1 << 60}},
		{[3]int{60, 41, 25}, 1 << 40, []uint64{60, 40, 25}, []uint64{0, 1 << 40, 1 << 60}},
		{[3]int{60, 41, 25}, 1 << 60, []uint64{60, 41, 24}, []uint64{0, 1 << 40, 1 << 60}},
		{[3]int{65, 2, 64}, 1 << 40, []uint64{65, 1, 64}, []uint64{0, 1 << 40, 1 << 60}},
		{[3]int{40, 25, 60}, 1 << 60, []uint64{40, 25, 59}, []uint64{0, 1 << 40, 1 << 60}},
		{[3]int{60, 40, 25}, 1 << 20, []uint64{59, 40, 25}, []uint64{0, 1 << 40, 1 << 60}},
	} {
		h := few(t, c.sizes[0], c.sizes[1], c.sizes[2])
		h.remove(c.key)
		list(t, h.m.sizes(), c.then, "buckets", i)
		list(t, h.m.reps(), c.reps, "representatives", i)
		same(t, h.y.Used(), usedOf(len(h.m.keys), c.reps...), "Used", i)
		same(t, h.y.Buckets(), len(c.reps), "Buckets", i)
		h.whole()
		same(t, h.insert(c.key), api.OK, "Insert", i)
		h.whole()
	}
}

// TestLastKeyOfAll: a bucket that is empty and alone is no more, and the next one begins at 0 again.
func TestLastKeyOfAll(t *testing.T) {
	for _, k := range []uint64{0, 5, 1 << 63, greatest} {
		h := hold(t, k, more)
		for range 3 {
			same(t, h.insert(k), api.OK, "Insert", k)
			same(t, h.y.Used(), 68, "Used", k)
			same(t, h.y.Buckets(), 1, "Buckets", k)
			h.remove(k)
			same(t, h.y.Used()+h.y.Buckets(), 0, "Used, Buckets", k)
			same(t, h.insert(^k), api.OK, "Insert", ^k)
			same(t, h.insert(k), api.ErrFull, "Insert", k)
			h.remove(^k)
			h.whole()
		}
	}
}

// TestMostThatKeysUse: of buckets that are as small as they can be, of representatives that share as little as they can.
func TestMostThatKeysUse(t *testing.T) {
	h := hold(t, 4, api.MaxCap)
	// 65 keys in each place: the places' first bits part.
	for i := range uint64(32) {
		same(t, h.each(spread(i<<59, 65, 1)...), 65, "Each")
	}
	same(t, h.y.Buckets(), 32, "Buckets")
	for i := uint64(1); i < 32; i += 2 {
		h.remove(spread(i<<59, 64, 1)...)
	}
	for i := uint64(0); i < 32; i += 2 {
		h.remove(i << 59)
	}
	same(t, h.y.Buckets(), 32, "Buckets")
	h.whole()
	for _, k := range shuffled(h.m.keys, 3) {
		h.delete(k)
	}
	same(t, h.y.Used(), 0, "Used at last")
}

// orders hands on each order of l.
func orders(l []uint64, f func([]uint64)) {
	l = slices.Clone(l)
	var from func(n int)
	from = func(n int) {
		if n == len(l) {
			f(l)
		}
		for i := n; i < len(l); i++ {
			l[n], l[i] = l[i], l[n]
			from(n + 1)
			l[n], l[i] = l[i], l[n]
		}
	}
	from(0)
}

// TestAllOrders: in whatever orders keys come and go, nothing is left, and nothing used, and there is room again.
func TestAllOrders(t *testing.T) {
	for _, l := range [][]uint64{{0, 1, greatest}, {5, 4, 6, 7}, {0, 1 << 63, 1 << 62, greatest}} {
		used := 67 + len(l)
		orders(l, func(in []uint64) {
			orders(l, func(out []uint64) {
				// The limit is what they need: what stayed behind would be in the way.
				h := filled(t, used, in)
				for _, k := range out {
					same(t, h.delete(k), api.OK, "Delete", k, "of", out)
					same(t, h.delete(k), api.ErrNone, "Delete", k, "of", out)
					h.all()
					h.asked(k)
				}
				same(t, h.y.Len()+h.y.Used(), 0, "Len, Used at last")
				same(t, h.each(in...), len(in), "Each", in)
			})
		})
	}
}

// TestAllOrdersOfBuckets: whole buckets go, in all orders.
func TestAllOrdersOfBuckets(t *testing.T) {
	places := []uint64{3, 1 << 20, 1 << 40, 1 << 60, 15 << 60}
	orders(places, func(out []uint64) {
		h := hold(t, 3, api.MaxCap)
		for _, k := range places {
			h.each(spread(k, 70, 1)...)
		}
		same(t, h.y.Buckets(), 5, "Buckets")
		for i, k := range out {
			h.remove(spread(k, 70, 1)...)
			h.all()
			for _, o := range places {
				h.asked(o - 1)
				h.asked(o + 70)
			}
			same(t, h.y.Len(), (4-i)*70, "Len")
		}
		same(t, h.y.Used(), 0, "Used at last")
		same(t, h.insert(9), api.OK, "Insert")
		h.all()
	})
}

func TestManyOrders(t *testing.T) {
	for seed, l := range [][]uint64{spread(0, 300, 1), mixed(300, 9), far(400), spread(greatest-270, 271, 1), spread(9, 350, 1<<55)} {
		h := hold(t, uint64(seed), 4*len(l)+more)
		for _, order := range [][]uint64{l, rising(l), reversed(rising(l)), shuffled(l, uint64(seed)), shuffled(l, uint64(seed)+50)} {
			same(t, h.each(shuffled(l, uint64(seed)+99)...), len(l), "Each")
			for i, k := range order {
				same(t, h.delete(k), api.OK, "Delete", k)
				if i%8 == 0 {
					h.all()
					h.asked(k)
					h.min()
					h.max()
				}
			}
			h.whole()
			same(t, h.y.Used(), 0, "Used at last")
		}
	}
}

func TestScripts(t *testing.T) {
	for n, limit := range []int{0, 67, 68, 69, 195, 196, 262, 400, 700, 2000, api.MaxCap} {
		for k, keys := range [][]uint64{mixed(6, 1), mixed(260, 2), spread(250, 300, 1), append(far(400), 0, greatest), spread(9, 250, 1<<56)} {
			script(t, seeds()[(n+k)%5], limit, keys, uint64(100*n+k), 1500)
		}
	}
}

// TestLongScripts: tries grow to many buckets and fall again.
func TestLongScripts(t *testing.T) {
	for k, keys := range [][]uint64{far(1500), mixed(1200, 3), spread(1<<32-500, 1000, 1), append(spread(1<<63, 700, 1), far(500)...)} {
		script(t, seeds()[k], api.MaxCap, keys, uint64(k), 12000)
	}
}

// TestScriptsOfSeeds: one script is answered alike by tries of all seeds.
func TestScriptsOfSeeds(t *testing.T) {
	for _, seed := range append(seeds(), 2, 3, 1<<32, 0x0123_4567_89ab_cdef) {
		script(t, seed, 500, far(400), 5, 1500)
		script(t, seed, api.MaxCap, append(mixed(260, 12), spread(1<<32-20, 140, 1)...), 6, 1500)
	}
}

// script tells a trie and a model the same things, and holds what each call answers, and what is told behind each.
func script(t *testing.T, seed uint64, limit int, keys []uint64, order uint64, calls int) {
	t.Helper()
	number := numbers(order)
	h := hold(t, seed, limit)
	for i := range calls {
		k := keys[number(len(keys))]
		near := about(k)[number(67)]
		switch do(number, i/(calls/4)%2 == 0) {
		case 'i':
			h.insert(k)
		case 'd':
			h.delete(k)
		case 'e':
			from := number(len(keys))
			h.each(keys[from:min(len(keys), from+number(30))]...)
		case 'c':
			h.clear()
		case 'a':
			h.asked(k)
			h.asked(near)
		case 'm':
			h.min()
			h.max()
		}
		if i%50 == 0 {
			h.all()
		}
	}
	h.whole()
}

// do tells which call is next; whether there are more of insert or of delete makes tries grow and fall.
func do(number func(int) int, grow bool) rune {
	n := number(20)
	switch {
	case n == 0 && number(60) == 0:
		return 'c'
	case n < 2:
		return 'm'
	case n < 5:
		return 'a'
	case n == 5 && number(4) == 0:
		return 'e'
	case n < 16 == grow:
		return 'i'
	}
	return 'd'
}

// P16.3

// TestStepsOfEachPrefix: whichever bit it is in which a key parts from the representatives, and on whichever side of them it is.
func TestStepsOfEachPrefix(t *testing.T) {
	for _, k := range []uint64{0x5a5a_a5a5_3c3c_c3c3, 0x0123_4567_89ab_cdef, 1 << 63, 1<<63 - 66, greatest - 64} {
		h := hold(t, k, api.MaxCap)
		h.each(spread(k-65, 65, 1)...)
		h.each(spread(k, 64, 1)...)
		list(t, h.m.reps(), []uint64{0, k}, "representatives")
		for _, a := range append(about(k), about(^k)...) {
			h.asked(a)
		}
		h.remove(k)
		for _, a := range about(k) {
			h.asked(a)
		}
	}
}

// TestSteps: in whatever trie, no operation takes more than it may, and none of a trie with keys takes none.
func TestSteps(t *testing.T) {
	l := append(append(spread(0, 3000, 1), spread(1<<30, 2500, 1<<9)...), mixed(1500, 8)...)
	l = append(l, spread(1<<34, 3000, 7<<31+5)...)
	l = append(l, far(20000)...)
	y := newTrie(t, 3, api.MaxCap)
	y.Each(l...)
	for _, k := range shuffled(l, 4)[:len(l)/3] {
		y.Delete(k)
	}
	same(t, y.Buckets() > 200, true, "many buckets")
	ask := append(spread(1<<29, 2000, 1<<10), spread(7, 2000, 0x7f4a_7c15_9e37_79b9)...)
	calls := map[string]struct {
		most int
		call func(k uint64)
	}{
		"Has":  {hasSteps, func(k uint64) { y.Has(k) }},
		"Next": {nearSteps, func(k uint64) { y.Next(k) }},
		"Prev": {nearSteps, func(k uint64) { y.Prev(k) }},
		"Min":  {endSteps, func(uint64) { y.Min() }},
		"Max":  {endSteps, func(uint64) { y.Max() }},
	}
	for name, c := range calls {
		for _, k := range append(l, ask...) {
			for _, a := range []uint64{k - 1, k, k + 1} {
				c.call(a)
				if n := y.Taken(); n < 1 || n > c.most {
					t.Fatalf("%s %d: %d steps", name, a, n)
				}
			}
		}
	}
}

// stepsOf is the Reads and Calls that f takes.
func stepsOf(m *count.Meter, f func()) [2]int {
	reads, calls := m.Reads(), m.Calls()
	f()
	return [2]int{m.Reads() - reads, m.Calls() - calls}
}

// TestWhatIsCounted: the steps of the representatives count, and so do the call that finds a bucket and each bucket that is read.
func TestWhatIsCounted(t *testing.T) {
	h := filled(t, api.MaxCap, spread(1000, 300, 2))
	h.remove(h.m.reps()[1:]...)
	y, reps := h.y, h.m.reps()
	same(t, len(reps), 4, "representatives")
	x, _ := xfast.New(1, api.MaxCap)
	x.Each(reps...)
	for _, k := range append(spread(900, 800, 1), about(0)...) {
		own := stepsOf(x.Meter, func() { x.Prev(k) })
		own[0], own[1] = own[0]+1, own[1]+1
		same(t, stepsOf(y.Meter, func() { y.Has(k) }), own, "steps of Has", k)
		if h.m.has(k) {
			same(t, stepsOf(y.Meter, func() { y.Insert(k) }), own, "steps of Insert of what is there", k)
		} else {
			same(t, stepsOf(y.Meter, func() { y.Delete(k) }), own, "steps of Delete of what isn't there", k)
		}
		i := h.m.place(k)
		b := h.m.buckets[i].keys
		above, below := own, own
		if b[len(b)-1] < k && i+1 < len(reps) {
			above[0]++
		}
		if b[0] > k && i > 0 {
			below[0]++
		}
		same(t, stepsOf(y.Meter, func() { y.Next(k) }), above, "steps of Next", k)
		same(t, stepsOf(y.Meter, func() { y.Prev(k) }), below, "steps of Prev", k)
	}
	reads := y.Reads()
	same(t, y.Delete(reps[2]+2), api.OK, "Delete")
	same(t, y.Reads()-reads > 2, true, "Reads of what looks at the buckets beside")
	// Each prefix of a representative that comes or goes is looked up, too.
	y = filled(t, api.MaxCap, spread(0, most, 2)).y
	for i, f := range []func(){func() { y.Insert(1) }, func() { y.Delete(0) }} {
		calls := y.Calls()
		f()
		same(t, y.Calls()-calls > 65, i == 0, "Calls of what splits, and of what doesn't", i)
	}
	calls := y.Calls()
	y.Each(spread(1000, 65, 1)...)
	same(t, y.Buckets(), 3, "Buckets")
	same(t, y.Calls()-calls > 65*2, true, "Calls of Each")
	calls, buckets := y.Calls(), y.Buckets()
	for _, k := range slices.Collect(y.All()) {
		y.Delete(k)
	}
	same(t, y.Calls()-calls > 65*buckets, true, "Calls of what deletes buckets")
}

// TestWhatTakesNoSteps: what begins no operation doesn't add to the one before, which may take no more.
func TestWhatTakesNoSteps(t *testing.T) {
	h := filled(t, api.MaxCap, far(300))
	y := h.y
	for _, k := range far(300) {
		y.Has(k)
		told := tell(y.Meter)
		y.Len()
		y.Used()
		y.Limit()
		y.Buckets()
		h.all()
		stopped(y.All(), 9)
		same(t, tell(y.Meter), told, "steps behind Has", k)
	}
	y.Min()
	told := tell(y.Meter)
	y.Clear()
	same(t, tell(y.Meter), told, "steps behind Min and Clear")
}

func TestWhatBeginsAnOperation(t *testing.T) {
	h := hold(t, 1, 68+most)
	for range 2 {
		starts := h.y.Starts()
		for i, f := range []func(){
			func() { h.y.Insert(5) }, func() { h.y.Insert(5) }, func() { h.y.Delete(6) }, func() { h.y.Delete(5) }, func() { h.y.Has(5) },
			func() { h.y.Next(5) }, func() { h.y.Prev(5) }, func() { h.y.Min() }, func() { h.y.Max() },
			func() { h.y.Insert(7) }, func() { h.y.Next(7) }, func() { h.y.Prev(8) }, func() { h.y.Has(7) }, func() { h.y.Min() }, func() { h.y.Max() },
		} {
			f()
			same(t, h.y.Starts(), starts+i+1, "Starts behind", i)
		}
		starts = h.y.Starts()
		same(t, h.y.Each(spread(100, most, 1)...), most-1, "Each")
		same(t, h.y.Starts(), starts+most, "Starts behind Each")
		starts = h.y.Starts()
		for i, f := range []func(){
			func() { h.y.Len() }, func() { h.y.Used() }, func() { h.y.Limit() }, func() { h.y.Buckets() }, func() { h.y.All() }, func() { stopped(h.y.All(), 1) },
			func() { stopped(h.y.All(), 999) }, func() { h.y.Each() }, func() { h.y.Clear() },
		} {
			f()
			same(t, h.y.Starts(), starts, "Starts behind", i)
		}
	}
}

// TestOneOperationEach: also those that split a bucket, and those that make one of two, begin one.
func TestOneOperationEach(t *testing.T) {
	h := hold(t, 1, api.MaxCap)
	l := far(600)
	for i, k := range l {
		h.y.Insert(k)
		same(t, h.y.Starts(), i+1, "Starts behind Insert", i)
	}
	for i, k := range shuffled(l, 3) {
		h.y.Delete(k)
		same(t, h.y.Starts(), len(l)+i+1, "Starts behind Delete", i)
	}
}

func TestMeter(t *testing.T) {
	y := newTrie(t, 9, 400)
	own := y.Meter
	same(t, own != nil, true, "a meter")
	y.Each(5, 6, 7)
	y.Has(6)
	same(t, tell(own), steps{y.Taken(), y.Reads(), y.Calls(), y.Peak(), y.Starts()}, "the trie's methods")
	same(t, y.Starts(), 4, "Starts")
	reads, calls, peak := y.Reads(), y.Calls(), y.Peak()
	y.Start()
	same(t, tell(own), steps{0, reads, calls, peak, 5}, "steps behind Start")
	y.Read()
	y.Call()
	y.Call()
	same(t, tell(own), steps{3, reads + 1, calls + 2, max(peak, 3), 5}, "steps behind Read, Call, Call")
	y.Min()
	taken := y.Taken()
	same(t, count.Sum(own), reads+calls+3+taken, "Sum")
	same(t, count.Worst(own), y.Peak(), "Worst")
	told := tell(own)
	y.Clear()
	same(t, tell(own), told, "steps behind Clear")
	same(t, y.Meter, own, "the meter")
	y.Min()
	same(t, own.Starts(), 7, "Starts behind Clear and Min")
	same(t, tell(newTrie(t, 9, 40).Meter), steps{}, "steps of another")
}

func TestMostIsLayer15s(t *testing.T) { same(t, bucket.Most, most, "Most") }

func TestNil(t *testing.T) {
	var y *yfast.YFast
	all := y.All()
	for range 2 {
		for _, k := range append(about(0), about(greatest)...) {
			same(t, y.Insert(k), api.ErrNone, "nil Insert", k)
			same(t, y.Delete(k), api.ErrNone, "nil Delete", k)
			same(t, y.Has(k), false, "nil Has", k)
			same(t, find(y.Next(k)), found{}, "nil Next", k)
			same(t, find(y.Prev(k)), found{}, "nil Prev", k)
			same(t, y.Each(k, k, 5), 0, "nil Each", k)
		}
		same(t, find(y.Min()), found{}, "nil Min")
		same(t, find(y.Max()), found{}, "nil Max")
		same(t, y.Len()+y.Used()+y.Limit()+y.Buckets()+y.Each(), 0, "nil Len, Used, Limit, Buckets, Each")
		list(t, slices.Collect(y.All()), nil, "nil All")
		list(t, slices.Collect(all), nil, "nil All, gone through again")
		y.Clear()
	}
}
