package play_test

import (
	"cmp"
	"math"
	"slices"
	"testing"

	"stepstone/api"
	"stepstone/code"
	"stepstone/play"
	"stepstone/shelf"
)

const greatest = math.MaxUint64

// tags are all that there are.
func tags() []int { return []int{1, 2, 3, 4, 5} }

// What a step does, by its Do.
const (
	open byte = iota
	shut
	insert
	put
	drop
	get
	has
	next
	prev
	length
	rank
	pick
	count
	wipe
	empty
	join
	equal
	within
	encode
	decode
	cursor
	step
	seek
	version
)

// names are as the document has them.
func names() []string {
	return []string{"open", "close", "insert", "put", "delete", "get", "has", "next", "prev", "len", "rank", "select", "count", "wipe", "clear", "join", "equal", "within", "encode", "decode", "cursor", "step", "seek", "version"}
}

func same[T comparable](t *testing.T, got, want T, what string, about ...any) {
	if got != want {
		t.Helper()
		t.Fatalf("%s %v: %v, not %v", what, about, got, want)
	}
}

// list holds lists against each other; long ones aren't told.
func list[T comparable](t *testing.T, got, want []T, what string, about ...any) {
	if !slices.Equal(got, want) {
		t.Helper()
		t.Fatalf("%s %v: %v (%d), not %v (%d)", what, about, got[:min(len(got), 40)], len(got), want[:min(len(want), 40)], len(want))
	}
}

// alike is whether answers are, field by field.
func alike(a, b play.Answer) bool {
	return a.E == b.E && a.K == b.K && a.N == b.N && a.Yes == b.Yes && string(a.P) == string(b.P)
}

func told(t *testing.T, got, want play.Answer, what string, about ...any) {
	if !alike(got, want) {
		t.Helper()
		t.Fatalf("%s %v: %v, not %v", what, about, got, want)
	}
}

// told2 holds lists of answers against each other.
func told2(t *testing.T, got, want []play.Answer, what string, about ...any) {
	t.Helper()
	same(t, len(got), len(want), what, about...)
	for i := range got {
		told(t, got[i], want[i], what, i, about)
	}
}

func failed(e api.Errno) play.Answer { return play.Answer{E: e} }

// numbers answers a function that tells numbers below n, on and on, by the seed.
func numbers(seed uint64) func(n int) int {
	return func(n int) int {
		seed = seed*6364136223846793005 + 1442695040888963407
		return int(seed >> 33 % uint64(n))
	}
}

// rising is these keys, each once.
func rising(l []uint64) []uint64 {
	r := slices.Clone(l)
	slices.Sort(r)
	return slices.Compact(r)
}

// p is a pair.
func p(k, v uint64) api.Pair { return api.Pair{Key: k, Value: v} }

func keysOf(l []api.Pair) []uint64 {
	var r []uint64
	for _, x := range l {
		r = append(r, x.Key)
	}
	return r
}

// row is a plain cursor: the keys of its range, how many of them stand ahead of it, and what the keys' version was.
type row struct {
	keys    []uint64
	ahead   int
	version uint64
}

func (r *row) step(back bool) play.Answer {
	switch {
	case back && r.ahead > 0:
		r.ahead--
		return play.Answer{K: r.keys[r.ahead]}
	case !back && r.ahead < len(r.keys):
		r.ahead++
		return play.Answer{K: r.keys[r.ahead-1]}
	}
	return failed(api.ErrEnd)
}

func (r *row) seek(k uint64) play.Answer {
	r.ahead, _ = slices.BinarySearch(r.keys, k)
	if r.ahead == len(r.keys) {
		return failed(api.ErrEnd)
	}
	return play.Answer{K: r.keys[r.ahead]}
}

// thing is a set or a map in the plainest way: a list of pairs, which rise; of a set the values are 0.
type thing struct {
	isMap bool
	pairs []api.Pair
	// keyed is how often a key was changed, valued how often a value alone was.
	keyed, valued uint64
	cursor        *row
}

// place is where k is, or would be; is it there?
func (x *thing) place(k uint64) (int, bool) {
	return slices.BinarySearchFunc(x.pairs, k, func(y api.Pair, k uint64) int { return cmp.Compare(y.Key, k) })
}

// now lets it have these pairs.
func (x *thing) now(l []api.Pair) play.Answer {
	switch {
	case !slices.Equal(keysOf(l), keysOf(x.pairs)):
		x.keyed++
	case !slices.Equal(l, x.pairs):
		x.valued++
	}
	x.pairs = l
	return play.Answer{}
}

func (x *thing) put(k, v uint64) play.Answer {
	i, there := x.place(k)
	switch {
	case !there:
		x.keyed++
		x.pairs = slices.Insert(x.pairs, i, p(k, v))
	case x.pairs[i].Value != v:
		x.valued++
		x.pairs[i].Value = v
	}
	return play.Answer{}
}

// at is the key of that place, or that error.
func (x *thing) at(i int, e api.Errno) play.Answer {
	if i < 0 || i >= len(x.pairs) {
		return failed(e)
	}
	return play.Answer{K: x.pairs[i].Key}
}

// without is the pairs whose keys aren't from from up to to.
func (x *thing) without(from, to uint64) []api.Pair {
	return slices.DeleteFunc(slices.Clone(x.pairs), func(y api.Pair) bool { return from <= y.Key && y.Key <= to })
}

func (x *thing) wipe(s play.Step) play.Answer {
	if s.K > s.To {
		return failed(api.ErrOrder)
	}
	l := x.without(s.K, s.To)
	a := play.Answer{N: len(x.pairs) - len(l)}
	if s.Do == wipe {
		x.now(l)
	}
	return a
}

func (x *thing) join(op int, of []*thing) play.Answer {
	switch {
	case x.isMap:
		return failed(api.ErrKind)
	case op < 0 || op > 3:
		return failed(api.ErrArg)
	}
	var all []uint64
	for _, y := range of {
		all = append(all, keysOf(y.pairs)...)
	}
	var l []api.Pair
	for _, k := range rising(all) {
		n := 0
		for _, y := range of {
			if _, there := y.place(k); there {
				n++
			}
		}
		_, first := of[0].place(k)
		if op == 0 || op == 1 && n == len(of) || op == 2 && n == 1 && first || op == 3 && n%2 == 1 {
			l = append(l, p(k, 0))
		}
	}
	return x.now(l)
}

func (x *thing) within(y *thing) bool {
	return len(rising(append(keysOf(x.pairs), keysOf(y.pairs)...))) == len(y.pairs)
}

func (x *thing) encode() play.Answer {
	var b []byte
	if x.isMap {
		b, _ = code.Pairs(x.pairs)
	} else {
		b, _ = code.Keys(keysOf(x.pairs))
	}
	return play.Answer{P: b}
}

func (x *thing) decode(b []byte) play.Answer {
	l, isMap, e := code.Parse(b)
	if e != api.OK || isMap != x.isMap {
		return failed(api.ErrForm)
	}
	return x.now(l)
}

func (x *thing) open(from, to uint64) play.Answer {
	if from > to {
		return failed(api.ErrOrder)
	}
	x.cursor = &row{version: x.keyed}
	for _, k := range keysOf(x.pairs) {
		if from <= k && k <= to {
			x.cursor.keys = append(x.cursor.keys, k)
		}
	}
	return play.Answer{}
}

func (x *thing) move(s play.Step) play.Answer {
	switch {
	case x.cursor == nil:
		return failed(api.ErrNone)
	case x.cursor.version != x.keyed:
		return failed(api.ErrStale)
	case s.Do == seek:
		return x.cursor.seek(s.K)
	}
	return x.cursor.step(s.Back)
}

// change is what a step answers that changes keys or values.
func (x *thing) change(s play.Step) play.Answer {
	i, there := x.place(s.K)
	switch {
	case s.Do == insert && there:
		return failed(api.ErrExists)
	case s.Do == insert:
		return x.put(s.K, 0)
	case s.Do == drop && !there:
		return failed(api.ErrNone)
	case s.Do == drop:
		return x.now(slices.Delete(slices.Clone(x.pairs), i, i+1))
	case s.Do == empty:
		return x.now(nil)
	case s.Do == decode:
		return x.decode(s.P)
	case !x.isMap:
		return failed(api.ErrKind)
	case s.Do == put:
		return x.put(s.K, s.To)
	case there:
		return play.Answer{K: x.pairs[i].Value}
	}
	return failed(api.ErrNone)
}

// table is a player in the plainest way.
type table struct {
	things [api.MaxHandles]*thing
	done   int
}

func (m *table) at(h int) *thing {
	if h < 0 || h >= len(m.things) {
		return nil
	}
	return m.things[h]
}

func (m *table) open(s play.Step) play.Answer {
	switch {
	case s.H < 0 || s.H >= len(m.things):
		return failed(api.ErrHandle)
	case m.things[s.H] != nil:
		return failed(api.ErrExists)
	case !slices.Contains(tags(), s.Tag) || s.Limit < 0 || s.Limit > api.MaxCap:
		return failed(api.ErrArg)
	}
	m.things[s.H] = &thing{isMap: s.Map}
	return play.Answer{}
}

// others are what these handles have, if all of them are open.
func (m *table) others(of ...int) ([]*thing, bool) {
	var l []*thing
	for _, h := range of {
		if m.at(h) == nil {
			return nil, false
		}
		l = append(l, m.things[h])
	}
	return l, true
}

func (m *table) do(s play.Step) play.Answer {
	m.done++
	switch {
	case s.Do > version:
		return failed(api.ErrArg)
	case s.Do == open:
		return m.open(s)
	}
	of := []int{s.H}
	switch s.Do {
	case join:
		of = append(of, s.Of...)
	case equal, within:
		of = append(of, s.I)
	}
	l, ok := m.others(of...)
	if !ok {
		return failed(api.ErrHandle)
	}
	switch s.Do {
	case shut:
		m.things[s.H] = nil
		return play.Answer{}
	case join:
		return l[0].join(s.I, l[1:])
	case equal:
		return play.Answer{Yes: l[0].within(l[1]) && l[1].within(l[0])}
	case within:
		return play.Answer{Yes: l[0].within(l[1])}
	}
	return l[0].do(s)
}

// do is what a step answers that is of one handle alone.
func (x *thing) do(s play.Step) play.Answer {
	i, there := x.place(s.K)
	switch s.Do {
	case has:
		return play.Answer{Yes: there}
	case next:
		return x.at(i, api.ErrNone)
	case prev:
		if !there {
			i--
		}
		return x.at(i, api.ErrNone)
	case length:
		return play.Answer{N: len(x.pairs)}
	case rank:
		return play.Answer{N: i}
	case pick:
		return x.at(s.I, api.ErrIndex)
	case count, wipe:
		return x.wipe(s)
	case encode:
		return x.encode()
	case cursor:
		return x.open(s.K, s.To)
	case step, seek:
		return x.move(s)
	case version:
		return play.Answer{K: x.keyed + x.valued}
	}
	return x.change(s)
}

// whole is what Whole answers, as texts.
func (m *table) whole() []string {
	var l []string
	for _, x := range m.things {
		b := ""
		if x != nil {
			b = string(x.encode().P)
		}
		l = append(l, b)
	}
	return l
}

func texts(l [][]byte) []string {
	var r []string
	for _, b := range l {
		r = append(r, string(b))
	}
	return r
}

// ask is what a step answers by the shelf's own call.
func ask(s *shelf.Shelf, c play.Step) play.Answer {
	a := play.Answer{}
	switch c.Do {
	case open:
		a.E = s.Open(c.H, shelf.Options{Map: c.Map, Tag: c.Tag, Seed: c.Seed, Limit: c.Limit})
	case shut:
		a.E = s.Close(c.H)
	case insert:
		a.E = s.Insert(c.H, c.K)
	case put:
		a.E = s.Put(c.H, c.K, c.To)
	case drop:
		a.E = s.Delete(c.H, c.K)
	case get:
		a.K, a.E = s.Get(c.H, c.K)
	case has:
		a.Yes, a.E = s.Has(c.H, c.K)
	case next:
		a.K, a.E = s.Next(c.H, c.K)
	case prev:
		a.K, a.E = s.Prev(c.H, c.K)
	case length:
		a.N, a.E = s.Len(c.H)
	case rank:
		a.N, a.E = s.Rank(c.H, c.K)
	case pick:
		a.K, a.E = s.Select(c.H, c.I)
	case count:
		a.N, a.E = s.Count(c.H, c.K, c.To)
	case wipe:
		a.N, a.E = s.Wipe(c.H, c.K, c.To)
	case empty:
		a.E = s.Clear(c.H)
	case join:
		a.E = s.Join(c.I, c.H, c.Of...)
	case equal:
		a.Yes, a.E = s.Equal(c.H, c.I)
	case within:
		a.Yes, a.E = s.Within(c.H, c.I)
	case encode:
		a.P, a.E = s.Encode(c.H)
	case decode:
		a.E = s.Decode(c.H, c.P)
	case cursor:
		a.E = s.Cursor(c.H, c.K, c.To)
	case step:
		a.K, a.E = s.Step(c.H, c.Back)
	case seek:
		a.K, a.E = s.Seek(c.H, c.K)
	case version:
		a.K, a.E = s.Version(c.H)
	default:
		a.E = api.ErrArg
	}
	return a
}
