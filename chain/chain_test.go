package chain_test

import (
	"iter"
	"math"
	"slices"
	"testing"

	"stepstone/api"
	"stepstone/chain"
	"stepstone/count"
)

const none = -1

func same[T comparable](t *testing.T, got, want T, what string, about ...any) {
	if got != want {
		t.Helper()
		t.Fatalf("%s %v: %v, not %v", what, about, got, want)
	}
}

// list holds lists against each other; long ones aren't told.
func list[T comparable](t *testing.T, got, want []T, what string, about ...any) {
	if !slices.Equal(got, want) {
		t.Helper()
		t.Fatalf("%s %v: %v (%d), not %v (%d)", what, about, got[:min(len(got), 40)], len(got), want[:min(len(want), 40)], len(want))
	}
}

// made is what Behind answers.
type made struct {
	link int
	ok   bool
}

func answer(i int, ok bool) made { return made{i, ok} }

// found is what Key answers.
type found struct {
	key uint64
	ok  bool
}

func find(k uint64, ok bool) found { return found{k, ok} }

// entry is a link and its key.
type entry struct {
	link int
	key  uint64
}

func collect(s iter.Seq2[int, uint64]) []entry { return stopped(s, math.MaxInt) }

// stopped is what s tells to one who stops it behind n.
func stopped(s iter.Seq2[int, uint64], n int) []entry {
	var l []entry
	s(func(i int, k uint64) bool {
		l = append(l, entry{i, k})
		return len(l) < n
	})
	return l
}

// steps is what a meter tells: Taken, Reads, Calls, Peak, Starts.
type steps [5]int

func tell(m *count.Meter) steps {
	return steps{m.Taken(), m.Reads(), m.Calls(), m.Peak(), m.Starts()}
}

// numbers answers a function that tells numbers below n, on and on, by the seed.
func numbers(seed uint64) func(n int) int {
	return func(n int) int {
		seed = seed*6364136223846793005 + 1442695040888963407
		return int(seed >> 33 % uint64(n))
	}
}

// below0 are numbers ahead of all links.
func below0() []int {
	return []int{math.MinInt, math.MinInt + 1, -1 << 32, -api.MaxCap, -3, -2, -1}
}

// tooGreat are numbers that no link has.
func tooGreat() []int {
	return []int{api.MaxCap, api.MaxCap + 1, 1 << 32, math.MaxInt - 1, math.MaxInt}
}

// model is a chain as the document's words tell it: a plain list of links in their order.
type model struct {
	limit int
	links []entry
	// ever is how many numbers there were, freed are those that no link has now.
	ever  int
	freed []int
	reads int
}

// place is where in the list the link is; -1: nowhere.
func (m *model) place(i int) int {
	return slices.IndexFunc(m.links, func(x entry) bool { return x.link == i })
}

func (m *model) number() int {
	if last := len(m.freed) - 1; last >= 0 {
		i := m.freed[last]
		m.freed = m.freed[:last]
		return i
	}
	m.ever++
	return m.ever - 1
}

func (m *model) behind(i int, k uint64) made {
	at := m.place(i)
	if i >= 0 && at < 0 || len(m.links) == m.limit {
		return made{}
	}
	n := m.number()
	m.links = slices.Insert(m.links, at+1, entry{n, k})
	return made{n, true}
}

func (m *model) drop(i int) bool {
	at := m.place(i)
	if at < 0 {
		return false
	}
	m.links = slices.Delete(m.links, at, at+1)
	m.freed = append(m.freed, i)
	return true
}

func (m *model) line(l []uint64) int {
	for n, k := range l {
		if !m.behind(m.at(len(m.links)-1), k).ok {
			return n
		}
	}
	return len(l)
}

func (m *model) clear() { m.links, m.freed, m.ever = nil, nil, 0 }

// at is the link at that place of the list.
func (m *model) at(place int) int {
	if place < 0 || place >= len(m.links) {
		return none
	}
	return m.links[place].link
}

// beside is the link so many behind the link i.
func (m *model) beside(i, by int) int {
	at := m.place(i)
	if at < 0 {
		return none
	}
	m.reads++
	return m.at(at + by)
}

func (m *model) key(i int) found {
	at := m.place(i)
	if at < 0 {
		return found{}
	}
	m.reads++
	return found{m.links[at].key, true}
}

// held is a chain that is held against a model behind each call.
type held struct {
	t *testing.T
	c *chain.Chain
	m *model
}

func newChain(t *testing.T, m *count.Meter, limit int) *chain.Chain {
	t.Helper()
	c, e := chain.New(m, limit)
	if e != api.OK || c == nil {
		t.Fatalf("New %d: %v, %v", limit, c, e)
	}
	return c
}

func hold(t *testing.T, limit int) held {
	t.Helper()
	return held{t, newChain(t, nil, limit), &model{limit: limit}}
}

// filled has the keys one behind the other, with the links 0, 1 ..
func filled(t *testing.T, limit int, keys ...uint64) held {
	t.Helper()
	h := hold(t, limit)
	same(t, h.line(keys...), len(keys), "Line", keys)
	return h
}

// sizes is Len, First, Last.
type sizes [3]int

// behind holds what is told behind every call, and that none but Key, Next and Prev took steps.
func (h held) behind(what string, about ...any) {
	h.t.Helper()
	got := sizes{h.c.Len(), h.c.First(), h.c.Last()}
	same(h.t, got, sizes{len(h.m.links), h.m.at(0), h.m.at(len(h.m.links) - 1)}, "Len, First, Last behind "+what, about...)
	rest := h.m.limit - len(h.m.links)
	same(h.t, h.c.Room(rest), true, "Room for the rest behind "+what, about...)
	same(h.t, h.c.Room(rest+1), false, "Room for one more behind "+what, about...)
	same(h.t, tell(h.c.Meter), steps{h.m.reads, h.m.reads, 0, h.m.reads, 0}, "steps behind "+what, about...)
}

func (h held) put(i int, k uint64) made {
	h.t.Helper()
	want := h.m.behind(i, k)
	same(h.t, answer(h.c.Behind(i, k)), want, "Behind", i, k)
	h.behind("Behind", i, k)
	return want
}

func (h held) drop(i int) bool {
	h.t.Helper()
	want := h.m.drop(i)
	same(h.t, h.c.Drop(i), want, "Drop", i)
	h.behind("Drop", i)
	return want
}

func (h held) line(l ...uint64) int {
	h.t.Helper()
	want := h.m.line(l)
	same(h.t, h.c.Line(l...), want, "Line", l)
	h.behind("Line", l)
	return want
}

func (h held) clear() {
	h.t.Helper()
	h.m.clear()
	h.c.Clear()
	h.behind("Clear")
}

// asked holds all that is told about the link i.
func (h held) asked(i int) {
	h.t.Helper()
	same(h.t, find(h.c.Key(i)), h.m.key(i), "Key", i)
	h.behind("Key", i)
	same(h.t, h.c.Next(i), h.m.beside(i, 1), "Next", i)
	h.behind("Next", i)
	same(h.t, h.c.Prev(i), h.m.beside(i, -1), "Prev", i)
	h.behind("Prev", i)
}

func (h held) all() {
	h.t.Helper()
	list(h.t, collect(h.c.All()), h.m.links, "All")
	h.behind("All")
}

// whole holds all that the chain tells.
func (h held) whole() {
	h.t.Helper()
	h.all()
	for i := range h.m.ever + 2 {
		h.asked(i)
	}
	for _, i := range append(below0(), tooGreat()...) {
		h.asked(i)
	}
	rest := h.m.limit - len(h.m.links)
	for _, n := range []int{math.MinInt, math.MinInt + 1, -1, 0, 1, rest - 1, rest, rest + 1, h.m.limit, h.m.limit + 1, api.MaxCap + 1, math.MaxInt - 1, math.MaxInt} {
		same(h.t, h.c.Room(n), n <= rest, "Room", n, "of", rest)
	}
	h.behind("Room")
}

// keys holds the keys in their order, told by hand.
func (h held) keys(want ...uint64) {
	h.t.Helper()
	var got []uint64
	for _, k := range h.c.All() {
		got = append(got, k)
	}
	list(h.t, got, want, "the keys")
	h.whole()
}

// stays holds that f changes nothing that the chain tells.
func (h held) stays(f func()) {
	h.t.Helper()
	was := slices.Clone(h.m.links)
	f()
	list(h.t, h.m.links, was, "links")
	h.whole()
}

// P13.1

func TestNew(t *testing.T) {
	for _, limit := range []int{0, 1, 2, 63, 4096, api.MaxCap - 1, api.MaxCap} {
		h := hold(t, limit)
		h.whole()
		h = held{t, newChain(t, count.New(), limit), &model{limit: limit}}
		h.whole()
	}
}

func TestLimitsThereCantBe(t *testing.T) {
	m := count.New()
	m.Read()
	for _, limit := range []int{math.MinInt, math.MinInt + 1, -1 << 32, -api.MaxCap, -2, -1, api.MaxCap + 1, api.MaxCap + 2, 2 * api.MaxCap, 1 << 32, math.MaxInt - 1, math.MaxInt} {
		for _, x := range []*count.Meter{nil, m} {
			c, e := chain.New(x, limit)
			same(t, e, api.ErrArg, "New", limit)
			same(t, c, nil, "New", limit)
		}
	}
	same(t, tell(m), steps{1, 1, 0, 1, 0}, "steps")
}

func TestExample(t *testing.T) {
	h := hold(t, 9)
	same(t, h.put(-1, 5), made{0, true}, "Behind")
	same(t, h.put(0, 9), made{1, true}, "Behind")
	same(t, h.put(0, 7), made{2, true}, "Behind")
	h.keys(5, 7, 9)
}

func TestBehind(t *testing.T) {
	h := hold(t, 20)
	same(t, h.put(-1, 50), made{0, true}, "Behind, the first")
	h.keys(50)
	same(t, h.put(-1, 10), made{1, true}, "Behind, ahead of all")
	h.keys(10, 50)
	same(t, h.put(1, 20), made{2, true}, "Behind, between two")
	h.keys(10, 20, 50)
	same(t, h.put(2, 30), made{3, true}, "Behind, between two")
	h.keys(10, 20, 30, 50)
	same(t, h.put(0, 60), made{4, true}, "Behind, behind the last")
	h.keys(10, 20, 30, 50, 60)
	same(t, h.put(4, 70), made{5, true}, "Behind, behind the last")
	same(t, h.put(-1, 0), made{6, true}, "Behind, ahead of all")
	h.keys(0, 10, 20, 30, 50, 60, 70)
	// Keys needn't rise, nor be there but once.
	same(t, h.put(4, 10), made{7, true}, "Behind")
	same(t, h.put(6, math.MaxUint64), made{8, true}, "Behind")
	same(t, h.put(-1, 10), made{9, true}, "Behind")
	h.keys(10, 0, math.MaxUint64, 10, 20, 30, 50, 60, 10, 70)
	same(t, h.c.First(), 9, "First")
	same(t, h.c.Last(), 5, "Last")
	same(t, h.c.Next(4), 7, "Next")
	same(t, h.c.Prev(4), 0, "Prev")
	same(t, h.c.Next(5), none, "Next of the last")
	same(t, h.c.Prev(9), none, "Prev of the first")
}

func TestBehindOfAnyBelow0(t *testing.T) {
	h := hold(t, 20)
	for n, i := range below0() {
		same(t, h.put(i, uint64(n)), made{n, true}, "Behind", i)
		same(t, h.c.First(), n, "First")
	}
	h.keys(6, 5, 4, 3, 2, 1, 0)
}

func TestBehindOfNone(t *testing.T) {
	h := hold(t, 20)
	for _, i := range append(tooGreat(), 0, 1, 2) {
		h.stays(func() { same(t, h.put(i, 5), made{}, "Behind", i) })
	}
	h.line(5, 6, 7, 8)
	same(t, h.drop(1) && h.drop(3), true, "Drop")
	for _, i := range append(tooGreat(), 1, 3, 4, 5, 19, 20) {
		h.stays(func() { same(t, h.put(i, 9), made{}, "Behind", i) })
	}
	// What was refused took no number.
	same(t, h.put(2, 9), made{3, true}, "Behind")
	same(t, h.put(2, 9), made{1, true}, "Behind")
	same(t, h.put(2, 9), made{4, true}, "Behind")
	h.keys(5, 7, 9, 9, 9)
}

func TestTheLastFreedIsTakenFirst(t *testing.T) {
	h := filled(t, 9, 0, 1, 2, 3, 4, 5)
	for _, i := range []int{4, 0, 5, 2} {
		same(t, h.drop(i), true, "Drop", i)
	}
	h.keys(1, 3)
	same(t, h.put(-1, 10), made{2, true}, "Behind")
	same(t, h.put(3, 11), made{5, true}, "Behind")
	// What is dropped between goes ahead of what was dropped before.
	same(t, h.drop(3) && h.drop(2), true, "Drop")
	for n, i := range []int{2, 3, 0, 4, 6, 7, 8} {
		same(t, h.put(1, uint64(20+n)), made{i, true}, "Behind")
	}
	same(t, h.put(1, 30), made{}, "Behind, full")
	h.keys(1, 26, 25, 24, 23, 22, 21, 20, 11)
}

func TestFull(t *testing.T) {
	h := filled(t, 3, 5, 6, 7)
	for _, i := range append(append(below0(), tooGreat()...), 0, 1, 2, 3) {
		h.stays(func() { same(t, h.put(i, 9), made{}, "Behind", i) })
	}
	h.stays(func() { same(t, h.line(9), 0, "Line") })
	for i := range 3 {
		same(t, h.drop(i), true, "Drop", i)
		same(t, h.put(-1, 8), made{i, true}, "Behind")
		h.stays(func() { same(t, h.put(i, 9), made{}, "Behind", i) })
	}
	h.keys(8, 8, 8)
}

func TestLimitOfNone(t *testing.T) {
	h := hold(t, 0)
	for range 3 {
		for _, i := range append(below0(), 0, 1) {
			h.stays(func() { same(t, h.put(i, 5), made{}, "Behind", i) })
			h.stays(func() { same(t, h.drop(i), false, "Drop", i) })
		}
		h.stays(func() { same(t, h.line(5, 6), 0, "Line") })
		h.clear()
	}
}

func TestLimitOfOne(t *testing.T) {
	h := hold(t, 1)
	for k := range uint64(5) {
		same(t, h.put(-1, k), made{0, true}, "Behind")
		h.stays(func() { same(t, h.put(-1, 9), made{}, "Behind") })
		h.stays(func() { same(t, h.put(0, 9), made{}, "Behind") })
		h.keys(k)
		same(t, h.drop(0), true, "Drop")
		h.keys()
	}
	same(t, h.line(7, 8), 1, "Line")
	h.keys(7)
}

func TestGreatestLimit(t *testing.T) {
	c := newChain(t, nil, api.MaxCap)
	l := make([]uint64, api.MaxCap+3)
	for i := range l {
		l[i] = uint64(i) * 3
	}
	for range 2 {
		same(t, c.Line(l...), api.MaxCap, "Line")
		same(t, c.Line(l...), 0, "Line, full")
		same(t, answer(c.Behind(-1, 5)), made{}, "Behind, full")
		same(t, c.Len(), api.MaxCap, "Len")
		same(t, c.First(), 0, "First")
		same(t, c.Last(), api.MaxCap-1, "Last")
		n := 0
		for i, k := range c.All() {
			if i != n || k != l[n] {
				t.Fatal("All", n, i, k)
			}
			n++
		}
		same(t, n, api.MaxCap, "All")
		last := api.MaxCap - 1
		same(t, c.Drop(0) && c.Drop(last) && c.Drop(77), true, "Drop")
		same(t, c.Room(3), true, "Room")
		same(t, c.Room(4), false, "Room")
		same(t, c.Next(76), 78, "Next")
		same(t, c.Prev(78), 76, "Prev")
		same(t, answer(c.Behind(last-1, 1)), made{77, true}, "Behind")
		same(t, answer(c.Behind(77, 2)), made{last, true}, "Behind")
		same(t, answer(c.Behind(-1, 3)), made{0, true}, "Behind")
		same(t, answer(c.Behind(-1, 4)), made{}, "Behind, full")
		same(t, c.Last(), last, "Last")
		same(t, c.First(), 0, "First")
		same(t, find(c.Key(last)), found{2, true}, "Key")
		c.Clear()
		same(t, sizes{c.Len(), c.First(), c.Last()}, sizes{0, none, none}, "Len, First, Last behind Clear")
	}
}

func TestDropAtTheEnds(t *testing.T) {
	h := filled(t, 9, 5, 6, 7, 8, 9)
	same(t, h.drop(0), true, "Drop of the first")
	h.keys(6, 7, 8, 9)
	same(t, h.drop(4), true, "Drop of the last")
	h.keys(6, 7, 8)
	same(t, h.drop(2), true, "Drop in between")
	h.keys(6, 8)
	same(t, h.drop(3), true, "Drop of the last")
	h.keys(6)
	same(t, h.drop(1), true, "Drop of the only one")
	h.keys()
	same(t, h.c.First(), none, "First of none")
	same(t, h.c.Last(), none, "Last of none")
	same(t, h.put(-1, 4), made{1, true}, "Behind")
	same(t, h.put(1, 3), made{3, true}, "Behind")
	h.keys(4, 3)
}

func TestDropOfNone(t *testing.T) {
	h := filled(t, 9, 5, 6, 7)
	for _, i := range append(append(below0(), tooGreat()...), 3, 4, 8, 9) {
		h.stays(func() { same(t, h.drop(i), false, "Drop", i) })
	}
	same(t, h.drop(1), true, "Drop")
	for range 3 {
		h.stays(func() { same(t, h.drop(1), false, "Drop again") })
	}
	// Each number is free but once.
	same(t, h.put(0, 8), made{1, true}, "Behind")
	same(t, h.put(0, 9), made{3, true}, "Behind")
	h.keys(5, 9, 8, 7)
}

// orders hands on each order of 0 to n - 1.
func orders(n int, f func([]int)) {
	l := make([]int, n)
	for i := range l {
		l[i] = i
	}
	var from func(int)
	from = func(at int) {
		if at == n {
			f(l)
		}
		for i := at; i < n; i++ {
			l[at], l[i] = l[i], l[at]
			from(at + 1)
			l[at], l[i] = l[i], l[at]
		}
	}
	from(0)
}

// ways hands on each way in which n links may come: for each what it stands behind.
func ways(n int, f func([]int)) {
	var from func([]int)
	from = func(l []int) {
		if len(l) == n {
			f(l)
			return
		}
		for i := -1; i < len(l); i++ {
			from(append(slices.Clone(l), i))
		}
	}
	from(nil)
}

// TestAllOrders: five links come in each way there is, and go in each order.
func TestAllOrders(t *testing.T) {
	ways(5, func(in []int) {
		h := hold(t, 5)
		for n, i := range in {
			same(t, h.put(i, uint64(n)*10), made{n, true}, "Behind", in)
		}
		h.whole()
		orders(5, func(out []int) {
			o := hold(t, 5)
			for n, i := range in {
				o.put(i, uint64(n)*10)
			}
			for _, i := range out {
				same(t, o.drop(i), true, "Drop", out, "of", in)
				o.all()
			}
			same(t, o.line(7, 7, 7, 7, 7, 7), 5, "Line")
			o.all()
		})
	})
}

func TestLine(t *testing.T) {
	h := hold(t, 7)
	same(t, h.line(), 0, "Line of none")
	same(t, h.line([]uint64{}...), 0, "Line of none")
	same(t, h.line(5, 4, 4), 3, "Line")
	h.keys(5, 4, 4)
	same(t, h.drop(0), true, "Drop")
	same(t, h.line(9), 1, "Line, behind others")
	h.keys(4, 4, 9)
	same(t, h.c.Last(), 0, "Last")
	same(t, h.line(1, 2, 3, 4, 5, 6), 4, "Line, till it's full")
	h.keys(4, 4, 9, 1, 2, 3, 4)
	h.stays(func() { same(t, h.line(8, 8), 0, "Line, full") })
	h.stays(func() { same(t, h.line(), 0, "Line of none, full") })
	same(t, h.drop(2) && h.drop(5), true, "Drop")
	same(t, h.line(7, 8, 9), 2, "Line, with room again")
	h.keys(4, 9, 1, 2, 4, 7, 8)
}

func TestLineOfManyLengths(t *testing.T) {
	for limit := range 6 {
		for n := range 8 {
			for ahead := range limit + 1 {
				h := hold(t, limit)
				h.line(make([]uint64, ahead)...)
				same(t, h.line(make([]uint64, n)...), min(n, limit-ahead), "Line", limit, ahead, n)
				h.whole()
			}
		}
	}
}

// TestHandedIn: what is handed in is neither changed nor kept, and its spare room isn't either.
func TestHandedIn(t *testing.T) {
	room := make([]uint64, 40)
	for i := range room {
		room[i] = uint64(i) + 5
	}
	want := slices.Clone(room)
	h := hold(t, 100)
	h.line(room[:20]...)
	list(t, room, want, "what was handed in")
	clear(room)
	h.keys(want[:20]...)
}

func TestAll(t *testing.T) {
	h := hold(t, 9)
	all := h.c.All()
	list(t, collect(all), nil, "All of none")
	h.line(5, 6, 7, 8)
	same(t, h.drop(1), true, "Drop")
	h.put(-1, 9)
	want := []entry{{1, 9}, {0, 5}, {2, 7}, {3, 8}}
	for range 2 {
		list(t, collect(all), want, "All, gone through again")
		list(t, collect(h.c.All()), want, "All")
	}
	for n := 1; n <= len(want); n++ {
		list(t, stopped(all, n), want[:n], "All, stopped behind", n)
		list(t, stopped(h.c.All(), n), want[:n], "All, stopped behind", n)
	}
	var got []entry
	for i, k := range all {
		got = append(got, entry{i, k})
		list(t, collect(all), want, "All within itself")
		h.asked(i)
	}
	list(t, got, want, "All")
	h.drop(0)
	list(t, collect(all), []entry{{1, 9}, {2, 7}, {3, 8}}, "All behind Drop")
	h.put(2, 4)
	list(t, collect(all), []entry{{1, 9}, {2, 7}, {0, 4}, {3, 8}}, "All behind Behind")
	h.clear()
	list(t, collect(all), nil, "All behind Clear")
	h.line(3)
	list(t, collect(all), []entry{{0, 3}}, "All behind Line")
}

func TestClear(t *testing.T) {
	h := hold(t, 4)
	h.clear()
	h.whole()
	for range 3 {
		h.line(5, 6, 7)
		// Neither what was dropped nor what was there stays behind Clear.
		same(t, h.drop(2) && h.drop(0), true, "Drop")
		h.clear()
		h.keys()
		for i := range 4 {
			h.stays(func() { same(t, h.drop(i), false, "Drop behind Clear", i) })
			h.stays(func() { same(t, h.put(i, 5), made{}, "Behind behind Clear", i) })
		}
		h.clear()
		h.whole()
	}
	for n := range 4 {
		same(t, h.put(-1, uint64(n)), made{n, true}, "Behind")
	}
	same(t, h.put(-1, 9), made{}, "Behind, full")
	h.keys(3, 2, 1, 0)
}

// TestSteps: Key, Next and Prev take one each, if there is the link; what stands beside it doesn't matter.
func TestSteps(t *testing.T) {
	h := filled(t, 4, 5, 6, 7, 8)
	same(t, h.drop(2), true, "Drop")
	m := h.c.Meter
	for i := range 4 {
		most := 1
		if i == 2 {
			most = 0
		}
		for name, f := range map[string]func(){"Key": func() { h.c.Key(i) }, "Next": func() { h.c.Next(i) }, "Prev": func() { h.c.Prev(i) }} {
			m.Start()
			reads := m.Reads()
			f()
			same(t, m.Taken(), most, "steps of", name, i)
			same(t, m.Reads()-reads, most, "Reads of", name, i)
		}
	}
	m.Start()
	told := tell(m)
	h.c.First()
	h.c.Last()
	h.c.Len()
	h.c.Room(1)
	collect(h.c.All())
	stopped(h.c.All(), 2)
	h.c.Behind(0, 5)
	h.c.Behind(-1, 5)
	h.c.Behind(0, 5)
	h.c.Behind(9, 5)
	h.c.Drop(0)
	h.c.Drop(0)
	h.c.Line(7, 8, 9)
	for _, i := range append(below0(), tooGreat()...) {
		h.c.Key(i)
		h.c.Next(i)
		h.c.Prev(i)
		h.c.Drop(i)
	}
	h.c.Clear()
	same(t, tell(m), told, "steps")
}

func TestMeterThatIsHandedIn(t *testing.T) {
	m := count.New()
	m.Call()
	m.Start()
	c := newChain(t, m, 3)
	same(t, c.Meter, m, "the meter")
	same(t, tell(m), steps{0, 0, 1, 1, 1}, "steps behind New")
	c.Line(5, 6)
	c.Key(0)
	c.Next(0)
	m.Read()
	same(t, tell(m), steps{3, 3, 1, 3, 1}, "steps")
	same(t, steps{c.Taken(), c.Reads(), c.Calls(), c.Peak(), c.Starts()}, tell(m), "the chain's methods")
	c.Start()
	c.Call()
	c.Read()
	same(t, tell(m), steps{2, 4, 2, 3, 2}, "steps by the chain's methods")
	// One meter may be of two chains.
	o := newChain(t, m, 1)
	o.Line(7)
	o.Prev(0)
	c.Key(1)
	same(t, tell(m), steps{4, 6, 2, 4, 2}, "steps of two chains")
	same(t, o.Taken(), 4, "Taken")
}

func TestMetersOfTheirOwn(t *testing.T) {
	a, b := newChain(t, nil, 3), newChain(t, nil, 3)
	a.Line(5)
	b.Line(6)
	a.Key(0)
	a.Key(0)
	b.Start()
	b.Next(0)
	same(t, tell(a.Meter), steps{2, 2, 0, 2, 0}, "steps of the first")
	same(t, tell(b.Meter), steps{1, 1, 0, 1, 1}, "steps of the second")
}

func TestChainsStandApart(t *testing.T) {
	a, b := filled(t, 4, 1, 2, 3), filled(t, 3, 4, 5)
	same(t, a.drop(1), true, "Drop")
	b.keys(4, 5)
	b.put(0, 6)
	a.keys(1, 3)
	b.clear()
	a.keys(1, 3)
	a.put(-1, 7)
	b.line(8)
	a.keys(7, 1, 3)
	b.keys(8)
}

func TestScripts(t *testing.T) {
	for n, limit := range []int{0, 1, 2, 3, 7, 20, 64} {
		for seed := range uint64(3) {
			script(t, limit, uint64(n)*10+seed)
		}
	}
}

// script tells a chain and a model the same things, and holds what each call answers, and what is told behind each.
func script(t *testing.T, limit int, seed uint64) {
	t.Helper()
	number := numbers(seed)
	h := hold(t, limit)
	for v := range 2000 {
		k := uint64(v) * 0x9e37_79b9_7f4a_7c15
		i := number(limit+4) - 2
		switch n := number(32); {
		case n < 11:
			h.put(i, k)
		case n < 13:
			h.put(h.c.Last(), k)
		case n < 22:
			h.drop(i)
		case n < 24:
			h.drop(h.c.First())
			h.drop(h.c.Last())
		case n < 30:
			h.asked(i)
		case n == 30:
			h.line(make([]uint64, number(4))...)
		case number(12) == 0:
			h.clear()
		}
		if v%20 == 0 {
			h.whole()
		} else {
			h.all()
		}
	}
}

func TestNil(t *testing.T) {
	var c *chain.Chain
	all := c.All()
	for range 2 {
		for _, i := range append(append(below0(), tooGreat()...), 0, 1) {
			same(t, answer(c.Behind(i, 5)), made{}, "nil Behind", i)
			same(t, c.Drop(i), false, "nil Drop", i)
			same(t, find(c.Key(i)), found{}, "nil Key", i)
			same(t, c.Next(i), none, "nil Next", i)
			same(t, c.Prev(i), none, "nil Prev", i)
			same(t, c.Room(i), false, "nil Room", i)
		}
		same(t, sizes{c.Len(), c.First(), c.Last()}, sizes{0, none, none}, "nil Len, First, Last")
		same(t, c.Line(5, 6)+c.Line(), 0, "nil Line")
		list(t, collect(c.All()), nil, "nil All")
		list(t, collect(all), nil, "nil All, gone through again")
		c.Clear()
	}
}
