package roar_test

import (
	"cmp"
	"math"
	"slices"
	"testing"

	"stepstone/api"
	"stepstone/count"
	"stepstone/roar"
)

const greatest = math.MaxUint64

// What the documents say: how many steps operations take at most, up to how many keys a plain box is an array, what a bitmap costs; unbound is of operations of whose steps they say nothing.
const (
	nearSteps  = 66
	endSteps   = 1
	arrayMost  = 4096
	bitmapCost = 1024
	unbound    = math.MaxInt
)

// same calls Helper where it fails alone, as others below that are called very often: it is slow.
func same[T comparable](t *testing.T, got, want T, what string, about ...any) {
	if got != want {
		t.Helper()
		t.Fatalf("%s %v: %v, not %v", what, about, got, want)
	}
}

// list holds lists against each other; long ones aren't told.
func list(t *testing.T, got, want []uint64, what string, about ...any) {
	if !slices.Equal(got, want) {
		t.Helper()
		t.Fatalf("%s %v: %v (%d), not %v (%d)", what, about, got[:min(len(got), 40)], len(got), want[:min(len(want), 40)], len(want))
	}
}

// found is what a call answers that may find nothing.
type found struct {
	key uint64
	ok  bool
}

func find(k uint64, ok bool) found { return found{k, ok} }

// changed is what Fill and Wipe answer.
type changed struct {
	keys int
	e    api.Errno
}

func change(n int, e api.Errno) changed { return changed{n, e} }

// steps is what a meter tells: Taken, Reads, Calls, Peak, Starts.
type steps [5]int

func tell(m *count.Meter) steps {
	return steps{m.Taken(), m.Reads(), m.Calls(), m.Peak(), m.Starts()}
}

// numbers answers a function that tells numbers below n, on and on, by the seed.
func numbers(seed uint64) func(n int) int {
	return func(n int) int {
		seed = seed*6364136223846793005 + 1442695040888963407
		return int(seed >> 33 % uint64(n))
	}
}

func shuffled(l []uint64, seed uint64) []uint64 {
	number, r := numbers(seed), slices.Clone(l)
	for i := range r {
		j := i + number(len(r)-i)
		r[i], r[j] = r[j], r[i]
	}
	return r
}

func reversed(l []uint64) []uint64 {
	r := slices.Clone(l)
	slices.Reverse(r)
	return r
}

func rising(l []uint64) []uint64 { return slices.Sorted(slices.Values(l)) }

// plain is a box as the documents' words tell it: lowers in a list, and whether they are kept as runs.
type plain struct {
	upper  uint64
	lowers []uint16
	asRuns bool
	cost   int
}

func plainCost(l []uint16) int {
	if len(l) > arrayMost {
		return bitmapCost
	}
	return len(l)
}

func runsCost(l []uint16) int {
	n := 0
	for i, v := range l {
		if i == 0 || l[i-1]+1 != v {
			n += 2
		}
	}
	return n
}

func newPlain(upper uint64, l []uint16) plain {
	return plain{upper: upper, lowers: l, cost: plainCost(l)}
}

func (b plain) optimised() plain {
	r := newPlain(b.upper, b.lowers)
	if n := runsCost(b.lowers); n < r.cost {
		r.asRuns, r.cost = true, n
	}
	return r
}

// whole is all lowers; it is never changed.
var whole = func() []uint16 {
	var l []uint16
	for v := range 1 << 16 {
		l = append(l, uint16(v))
	}
	return l
}()

// edited is the box with all lowers from first up to last, or with none of them, and how many are changed.
func (b plain) edited(first, last uint16, in bool) (plain, int) {
	from, _ := slices.BinarySearch(b.lowers, first)
	to, there := slices.BinarySearch(b.lowers, last)
	if there {
		to++
	}
	n := to - from
	var between []uint16
	if in {
		between = whole[first : int(last)+1]
		n = len(between) - n
	}
	if n == 0 {
		return b, 0
	}
	l := between
	if from > 0 || to < len(b.lowers) {
		l = slices.Concat(b.lowers[:from], between, b.lowers[to:])
	}
	return newPlain(b.upper, l), n
}

// model is a Roar as the documents' words tell it: boxes, rising, whose lowers are plain rising lists.
type model struct {
	limit int
	boxes []plain
}

func used(l []plain) int {
	n := 0
	for _, b := range l {
		n += 1 + b.cost
	}
	return n
}

func (m *model) keys() []uint64 {
	var l []uint64
	for _, b := range m.boxes {
		for _, v := range b.lowers {
			l = append(l, b.upper<<16|uint64(v))
		}
	}
	return l
}

func (m *model) len() int {
	n := 0
	for _, b := range m.boxes {
		n += len(b.lowers)
	}
	return n
}

// place is that of the first box whose upper is u or above; is it u?
func place(l []plain, u uint64) (int, bool) {
	return slices.BinarySearchFunc(l, u, func(b plain, u uint64) int { return cmp.Compare(b.upper, u) })
}

func (m *model) rank(k uint64) int {
	n := 0
	for _, b := range m.boxes {
		if b.upper > k>>16 {
			break
		}
		if b.upper == k>>16 {
			i, _ := slices.BinarySearch(b.lowers, uint16(k))
			return n + i
		}
		n += len(b.lowers)
	}
	return n
}

// at is the key below which there are i.
func (m *model) at(i int) found {
	for _, b := range m.boxes {
		if i >= 0 && i < len(b.lowers) {
			return found{b.upper<<16 | uint64(b.lowers[i]), true}
		}
		i -= len(b.lowers)
		if i < 0 {
			break
		}
	}
	return found{}
}

func (m *model) has(k uint64) bool { return m.at(m.rank(k)) == found{k, true} }

func (m *model) next(k uint64) found { return m.at(m.rank(k)) }

func (m *model) prev(k uint64) found {
	if m.has(k) {
		return found{k, true}
	}
	return m.at(m.rank(k) - 1)
}

// cut is the lowers that a range has of an upper.
func cut(u, from, to uint64) (first, last uint16) {
	first, last = 0, 65535
	if u == from>>16 {
		first = uint16(from)
	}
	if u == to>>16 {
		last = uint16(to)
	}
	return first, last
}

// edit lets all from from up to to be in it, or not.
func (m *model) edit(from, to uint64, in bool) changed {
	if from > to {
		return changed{0, api.ErrOrder}
	}
	// Each of these has a box then, which uses 2 at least: it needn't be made.
	if in && to>>16-from>>16 >= uint64(m.limit)/2+1 {
		return changed{0, api.ErrFull}
	}
	l, sum := slices.Clone(m.boxes), 0
	for _, u := range m.uppers(from>>16, to>>16, in) {
		i, there := place(l, u)
		if !there {
			l = slices.Insert(l, i, plain{upper: u})
		}
		first, last := cut(u, from, to)
		b, n := l[i].edited(first, last, in)
		l[i] = b
		sum += n
		if len(b.lowers) == 0 {
			l = slices.Delete(l, i, i+1)
		}
	}
	if used(l) > m.limit {
		return changed{0, api.ErrFull}
	}
	m.boxes = l
	return changed{sum, api.OK}
}

// uppers are those from from up to to, or only those of them that have a box.
func (m *model) uppers(from, to uint64, all bool) []uint64 {
	var l []uint64
	if all {
		for u := from; u <= to; u++ {
			l = append(l, u)
		}
		return l
	}
	for _, b := range m.boxes {
		if b.upper >= from && b.upper <= to {
			l = append(l, b.upper)
		}
	}
	return l
}

func (m *model) insert(k uint64) api.Errno {
	if m.has(k) {
		return api.ErrExists
	}
	return m.edit(k, k, true).e
}

func (m *model) delete(k uint64) api.Errno {
	if !m.has(k) {
		return api.ErrNone
	}
	return m.edit(k, k, false).e
}

// each tells how many of l were new ahead of the first that there was no room for.
func (m *model) each(l []uint64) int {
	n := 0
	for _, k := range l {
		switch m.insert(k) {
		case api.OK:
			n++
		case api.ErrFull:
			return n
		}
	}
	return n
}

func (m *model) optimise() int {
	n := 0
	for i, b := range m.boxes {
		m.boxes[i] = b.optimised()
		if m.boxes[i].asRuns != b.asRuns {
			n++
		}
	}
	return n
}

func (m *model) plain() api.Errno {
	var l []plain
	for _, b := range m.boxes {
		l = append(l, newPlain(b.upper, b.lowers))
	}
	if used(l) > m.limit {
		return api.ErrFull
	}
	m.boxes = l
	return api.OK
}

// held is a Roar that is held against a model behind each call.
type held struct {
	t *testing.T
	r *roar.Roar
	m *model
}

func newRoar(t *testing.T, limit int) *roar.Roar {
	t.Helper()
	r, e := roar.New(limit)
	if e != api.OK || r == nil {
		t.Fatalf("New %d: %v, %v", limit, r, e)
	}
	return r
}

func hold(t *testing.T, limit int) held {
	t.Helper()
	return held{t, newRoar(t, limit), &model{limit: limit}}
}

// filled has the keys, inserted in this order.
func filled(t *testing.T, limit int, keys []uint64) held {
	t.Helper()
	h := hold(t, limit)
	for _, k := range keys {
		same(t, h.insert(k), api.OK, "Insert", k)
	}
	return h
}

// operation holds that f begins one operation, which takes at most so many steps, and at least one, if there is a key.
func (h held) operation(most int, k uint64, f func(), what string, about ...any) {
	starts, sum, keys := h.r.Starts(), count.Sum(h.r.Meter), h.r.Len()
	f()
	taken := h.r.Taken()
	began, all := h.r.Starts()-starts, count.Sum(h.r.Meter)-sum
	if taken > most || keys > 0 && taken < 1 || began != 1 || all != taken {
		h.t.Helper()
		h.t.Fatalf("%s %v: %d steps (in all: %d), at most %d; it began %d operations", what, about, taken, all, most, began)
	}
	h.behind(k, what, about...)
}

// apart holds that f begins no operation, and takes no steps: they would count to the operation before.
func (h held) apart(k uint64, f func(), what string, about ...any) {
	told := tell(h.r.Meter)
	f()
	if now := tell(h.r.Meter); now != told {
		h.t.Helper()
		h.t.Fatalf("%s %v: steps %v, then %v", what, about, told, now)
	}
	h.behind(k, what, about...)
}

// behind holds what is told behind every call: Len, Used, Limit, Boxes; Rank of k, and Select about that.
func (h held) behind(k uint64, what string, about ...any) {
	told := tell(h.r.Meter)
	got := [5]int{h.r.Len(), h.r.Used(), h.r.Limit(), h.r.Boxes(), h.r.Rank(k)}
	want := [5]int{h.m.len(), used(h.m.boxes), h.m.limit, len(h.m.boxes), h.m.rank(k)}
	if got != want {
		h.t.Helper()
		h.t.Fatalf("Len, Used, Limit, Boxes, Rank of %d behind %s %v: %v, not %v", k, what, about, got, want)
	}
	for _, i := range []int{want[4] - 1, want[4], want[0] - 1, want[0], -1} {
		if got, want := find(h.r.Select(i)), h.m.at(i); got != want {
			h.t.Helper()
			h.t.Fatalf("Select of %d behind %s %v: %v, not %v", i, what, about, got, want)
		}
	}
	if tell(h.r.Meter) != told {
		h.t.Helper()
		h.t.Fatalf("steps behind %s %v: %v, not %v", what, about, tell(h.r.Meter), told)
	}
}

func (h held) insert(k uint64) api.Errno {
	h.t.Helper()
	want := h.m.insert(k)
	h.operation(unbound, k, func() { same(h.t, h.r.Insert(k), want, "Insert", k) }, "Insert", k)
	return want
}

func (h held) delete(k uint64) api.Errno {
	h.t.Helper()
	want := h.m.delete(k)
	h.operation(unbound, k, func() { same(h.t, h.r.Delete(k), want, "Delete", k) }, "Delete", k)
	return want
}

func (h held) has(k uint64) bool {
	h.t.Helper()
	want := h.m.has(k)
	h.operation(nearSteps, k, func() { same(h.t, h.r.Has(k), want, "Has", k) }, "Has", k)
	return want
}

func (h held) next(k uint64) found {
	h.t.Helper()
	want := h.m.next(k)
	h.operation(nearSteps, k, func() { same(h.t, find(h.r.Next(k)), want, "Next", k) }, "Next", k)
	return want
}

func (h held) prev(k uint64) found {
	h.t.Helper()
	want := h.m.prev(k)
	h.operation(nearSteps, k, func() { same(h.t, find(h.r.Prev(k)), want, "Prev", k) }, "Prev", k)
	return want
}

func (h held) min() found {
	h.t.Helper()
	want := h.m.at(0)
	h.operation(endSteps, want.key, func() { same(h.t, find(h.r.Min()), want, "Min") }, "Min")
	return want
}

func (h held) max() found {
	h.t.Helper()
	want := h.m.at(h.m.len() - 1)
	h.operation(endSteps, want.key, func() { same(h.t, find(h.r.Max()), want, "Max") }, "Max")
	return want
}

func (h held) each(l ...uint64) int {
	h.t.Helper()
	handed := slices.Clone(l)
	want := h.m.each(l)
	same(h.t, h.r.Each(l...), want, "Each", len(l))
	list(h.t, l, handed, "what was handed to Each")
	h.behind(greatest, "Each", len(l))
	return want
}

func (h held) fill(from, to uint64) changed {
	h.t.Helper()
	want := h.m.edit(from, to, true)
	h.apart(from, func() { same(h.t, change(h.r.Fill(from, to)), want, "Fill", from, to) }, "Fill", from, to)
	return want
}

func (h held) wipe(from, to uint64) changed {
	h.t.Helper()
	want := h.m.edit(from, to, false)
	h.apart(to, func() { same(h.t, change(h.r.Wipe(from, to)), want, "Wipe", from, to) }, "Wipe", from, to)
	return want
}

func (h held) optimise() int {
	h.t.Helper()
	want := h.m.optimise()
	h.apart(0, func() { same(h.t, h.r.Optimise(), want, "Optimise") }, "Optimise")
	return want
}

func (h held) plain() api.Errno {
	h.t.Helper()
	want := h.m.plain()
	h.apart(0, func() { same(h.t, h.r.Plain(), want, "Plain") }, "Plain")
	return want
}

func (h held) all() []uint64 {
	h.t.Helper()
	keys := h.m.keys()
	h.apart(0, func() { list(h.t, slices.Collect(h.r.All()), keys, "All") }, "All")
	return keys
}

func (h held) clear() {
	h.t.Helper()
	h.m.boxes = nil
	h.apart(0, func() { h.r.Clear() }, "Clear")
}

// about are k, the keys beside it, and those that part from it in one bit.
func about(k uint64) []uint64 {
	l := []uint64{k - 1, k, k + 1}
	for i := range 64 {
		l = append(l, k^1<<i)
	}
	return l
}

// asked holds all that is answered about k.
func (h held) asked(k uint64) {
	h.t.Helper()
	h.has(k)
	h.next(k)
	h.prev(k)
}

// whole holds all that is told; of very many keys, about some.
func (h held) whole() {
	h.t.Helper()
	keys := h.all()
	h.min()
	h.max()
	for _, k := range []uint64{0, 1, 65535, 65536, 1<<32 - 1, 1 << 32, 1<<63 - 1, 1 << 63, greatest - 65536, greatest - 65535, greatest - 1, greatest} {
		h.asked(k)
	}
	for i := 0; i < len(keys); i += 1 + len(keys)/400 {
		h.asked(keys[i] - 1)
		h.asked(keys[i])
		h.asked(keys[i] + 1)
		same(h.t, find(h.r.Select(i)), found{keys[i], true}, "Select", i)
	}
	for _, b := range h.m.boxes[:min(len(h.m.boxes), 100)] {
		for _, k := range []uint64{b.upper << 16, b.upper<<16 | 65535, b.upper<<16 | uint64(b.lowers[0]), b.upper<<16 | uint64(b.lowers[len(b.lowers)-1])} {
			h.asked(k - 1)
			h.asked(k)
			h.asked(k + 1)
		}
	}
	for _, i := range []int{math.MinInt, -1 << 32, -1, len(keys), len(keys) + 1, 1 << 32, math.MaxInt} {
		same(h.t, find(h.r.Select(i)), found{}, "Select", i)
	}
}

// stays holds that f changes nothing that is told.
func (h held) stays(f func()) {
	h.t.Helper()
	boxes := slices.Clone(h.m.boxes)
	f()
	same(h.t, slices.EqualFunc(h.m.boxes, boxes, func(a, b plain) bool {
		return a.upper == b.upper && a.asRuns == b.asRuns && slices.Equal(a.lowers, b.lowers)
	}), true, "the model stays")
	h.all()
	h.min()
	h.max()
}

// remove deletes each of these.
func (h held) remove(l ...uint64) {
	h.t.Helper()
	for _, k := range l {
		same(h.t, h.delete(k), api.OK, "Delete", k)
	}
}

// single is one key for each bit, with that bit alone.
func single() []uint64 {
	var l []uint64
	for i := range 64 {
		l = append(l, 1<<i)
	}
	return l
}

// spread is n keys that are by apart, from from on.
func spread(from uint64, n int, by uint64) []uint64 {
	var l []uint64
	for i := range uint64(n) {
		l = append(l, from+i*by)
	}
	return l
}

// runs is n runs of so many keys, one key apart.
func runs(from uint64, n, size int) []uint64 {
	var l []uint64
	for i := range uint64(n) {
		l = append(l, spread(from+i*uint64(size+1), size, 1)...)
	}
	return l
}

// far is n keys far from each other, as an odd number's multiples are, modulo 2^64.
func far(n int) []uint64 { return spread(3, n, 0x9e37_79b9_7f4a_7c15) }

// mixed is n keys here and there, that part from each other in any bits.
func mixed(n int, seed uint64) []uint64 {
	number := numbers(seed)
	l := []uint64{0x0123_4567_89ab_cdef}
	for len(l) < n {
		k := l[number(len(l))] ^ 1<<number(64)
		if number(2) == 0 {
			k ^= uint64(number(256)) << number(57)
		}
		if !slices.Contains(l, k) {
			l = append(l, k)
		}
	}
	return l[:n]
}

// inverted is keys the other way round: what was above is below.
func inverted(l []uint64) []uint64 {
	var r []uint64
	for _, k := range l {
		r = append(r, ^k)
	}
	return r
}

func samples() map[string][]uint64 {
	return map[string][]uint64{
		"none":                      nil,
		"the least":                 {0},
		"the greatest":              {greatest},
		"both ends":                 {0, greatest},
		"beside the ends":           {0, 1, greatest - 1, greatest},
		"one":                       {7},
		"one upper":                 spread(1<<40, 300, 7),
		"the ends of an upper":      {65535, 65536, 131071, 131072},
		"an upper each":             spread(5, 300, 65536),
		"the top's uppers":          spread(greatest-299<<16, 300, 65536),
		"two in each upper":         append(spread(3, 150, 65536), spread(65533, 150, 65536)...),
		"each bit alone, and not":   append(single(), inverted(single())...),
		"over an edge":              spread(1<<32-150, 300, 1),
		"as runs":                   append(runs(9, 40, 5), runs(1<<50, 20, 3)...),
		"far apart":                 far(500),
		"here and there":            mixed(300, 5),
		"many in one place, few in": append(spread(1<<40, 260, 1), mixed(40, 6)...),
	}
}

// orders hands on each order of l.
func orders(l []uint64, f func([]uint64)) {
	l = slices.Clone(l)
	var from func(n int)
	from = func(n int) {
		if n == len(l) {
			f(l)
		}
		for i := n; i < len(l); i++ {
			l[n], l[i] = l[i], l[n]
			from(n + 1)
			l[n], l[i] = l[i], l[n]
		}
	}
	from(0)
}
