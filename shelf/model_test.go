package shelf_test

import (
	"cmp"
	"math"
	"slices"
	"testing"

	"stepstone/api"
	"stepstone/code"
	"stepstone/dict"
	"stepstone/face"
	"stepstone/shelf"
)

const greatest = math.MaxUint64

// tags are all that there are.
func tags() []int { return []int{1, 2, 3, 4, 5} }

// wrongTags are those that there aren't.
func wrongTags() []int {
	return []int{math.MinInt, -1 << 32, -5, -1, 0, 6, 7, 256, 257, 1<<32 + 1, math.MaxInt}
}

// wrongLimits are those that there can't be.
func wrongLimits() []int {
	return []int{math.MinInt, -1 << 32, -2, -1, api.MaxCap + 1, api.MaxCap + 2, 1 << 32, math.MaxInt}
}

// wrongHandles are those that there aren't.
func wrongHandles() []int {
	return []int{math.MinInt, math.MinInt + 1, -1 << 32, -256, -8, -1, 8, 9, 16, 255, 256, 257, 1 << 32, 1<<32 + 1, math.MaxInt - 1, math.MaxInt}
}

func same[T comparable](t *testing.T, got, want T, what string, about ...any) {
	if got != want {
		t.Helper()
		t.Fatalf("%s %v: %v, not %v", what, about, got, want)
	}
}

// list holds lists against each other; long ones aren't told.
func list[T comparable](t *testing.T, got, want []T, what string, about ...any) {
	if !slices.Equal(got, want) {
		t.Helper()
		t.Fatalf("%s %v: %v (%d), not %v (%d)", what, about, got[:min(len(got), 40)], len(got), want[:min(len(want), 40)], len(want))
	}
}

// numbers answers a function that tells numbers below n, on and on, by the seed.
func numbers(seed uint64) func(n int) int {
	return func(n int) int {
		seed = seed*6364136223846793005 + 1442695040888963407
		return int(seed >> 33 % uint64(n))
	}
}

// rising is these keys, each once.
func rising(l []uint64) []uint64 {
	r := slices.Clone(l)
	slices.Sort(r)
	return slices.Compact(r)
}

func shuffled[T any](l []T, seed uint64) []T {
	number, r := numbers(seed), slices.Clone(l)
	for i := range r {
		j := i + number(len(r)-i)
		r[i], r[j] = r[j], r[i]
	}
	return r
}

// spread is n keys that are by apart, from from on.
func spread(from uint64, n int, by uint64) []uint64 {
	var l []uint64
	for i := range uint64(n) {
		l = append(l, from+i*by)
	}
	return l
}

// far is n keys all over.
func far(n int) []uint64 {
	var l []uint64
	for i := range uint64(n) {
		l = append(l, (i+1)*0x9e3779b97f4a7c15)
	}
	return l
}

// p is a pair.
func p(k, v uint64) api.Pair { return api.Pair{Key: k, Value: v} }

// pairs are of these keys, with values by the seed: some are the same, some 0, some great.
func pairs(seed uint64, keys ...uint64) []api.Pair {
	var l []api.Pair
	for i, k := range keys {
		v := (k + seed) * 0x9e3779b97f4a7c15
		switch (uint64(i) + seed) % 4 {
		case 0:
			v = 0
		case 1:
			v %= 1000
		}
		l = append(l, p(k, v))
	}
	return l
}

// bare is these pairs with the values 0.
func bare(l []api.Pair) []api.Pair {
	var r []api.Pair
	for _, x := range l {
		r = append(r, p(x.Key, 0))
	}
	return r
}

func keysOf(l []api.Pair) []uint64 {
	var r []uint64
	for _, x := range l {
		r = append(r, x.Key)
	}
	return r
}

// samples are pairs of rising keys.
func samples() [][]api.Pair {
	ends := []uint64{0, 1, 2, 5, 63, 64, 65535, 65536, 1<<32 - 1, 1 << 32, 1<<63 - 1, 1 << 63, greatest - 1, greatest}
	var r [][]api.Pair
	for i, keys := range [][]uint64{
		nil, {0}, {5}, {greatest}, {0, greatest}, {5, 9}, {1, 5, 9, 12}, {greatest - 1, greatest}, ends,
		spread(0, 30, 1), spread(greatest-139, 140, 1), spread(7, 20, 1<<59), spread(65520, 40, 1), rising(far(25)),
	} {
		r = append(r, pairs(uint64(i), keys...))
	}
	return r
}

// asked is keys to ask for: those near the ends, and near some of l.
func asked(l []api.Pair) []uint64 {
	r := []uint64{0, 1, 2, 1 << 32, greatest - 1, greatest}
	for i, x := range l {
		if i < 2 || i >= len(l)-2 || i%(1+len(l)/6) == 0 {
			r = append(r, x.Key-1, x.Key, x.Key+1)
		}
	}
	return rising(r)
}

// places are those to ask for of n keys: below 0, each of them, and behind the last one.
func places(n int) []int {
	l := []int{math.MinInt, math.MinInt + 1, -2, -1, n, n + 1, 1 << 40, math.MaxInt - 1, math.MaxInt}
	for i := range n {
		l = append(l, i)
	}
	return l
}

// call is one of a shelf's calls, by its name in small letters, and answer what it answers.
type call struct {
	name    string
	h, i    int
	of      []int
	k, to   uint64
	bytes   []byte
	options shelf.Options
	back    bool
}

type answer struct {
	e     api.Errno
	k     uint64
	n     int
	yes   bool
	bytes string
}

func failed(e api.Errno) answer { return answer{e: e} }

func key(k uint64, e api.Errno) answer { return answer{e: e, k: k} }

func number(n int, e api.Errno) answer { return answer{e: e, n: n} }

func yes(is bool, e api.Errno) answer { return answer{e: e, yes: is} }

func encoded(p []byte, e api.Errno) answer { return answer{e: e, bytes: string(p)} }

func ask(s *shelf.Shelf, c call) answer {
	switch c.name {
	case "open":
		return failed(s.Open(c.h, c.options))
	case "close":
		return failed(s.Close(c.h))
	case "insert":
		return failed(s.Insert(c.h, c.k))
	case "put":
		return failed(s.Put(c.h, c.k, c.to))
	case "delete":
		return failed(s.Delete(c.h, c.k))
	case "get":
		return key(s.Get(c.h, c.k))
	case "has":
		return yes(s.Has(c.h, c.k))
	case "next":
		return key(s.Next(c.h, c.k))
	case "prev":
		return key(s.Prev(c.h, c.k))
	case "len":
		return number(s.Len(c.h))
	case "rank":
		return number(s.Rank(c.h, c.k))
	case "select":
		return key(s.Select(c.h, c.i))
	case "count":
		return number(s.Count(c.h, c.k, c.to))
	case "wipe":
		return number(s.Wipe(c.h, c.k, c.to))
	case "clear":
		return failed(s.Clear(c.h))
	case "join":
		return failed(s.Join(c.i, c.h, c.of...))
	case "equal":
		return yes(s.Equal(c.h, c.i))
	case "within":
		return yes(s.Within(c.h, c.i))
	case "encode":
		return encoded(s.Encode(c.h))
	case "decode":
		return failed(s.Decode(c.h, c.bytes))
	case "cursor":
		return failed(s.Cursor(c.h, c.k, c.to))
	case "step":
		return key(s.Step(c.h, c.back))
	case "seek":
		return key(s.Seek(c.h, c.k))
	case "version":
		return key(s.Version(c.h))
	case "used":
		return number(s.Used(c.h))
	}
	return yes(s.Taken(c.h), api.OK)
}

// names are all calls that ask knows.
func names() []string {
	return []string{"open", "close", "insert", "put", "delete", "get", "has", "next", "prev", "len", "rank", "select", "count", "wipe", "clear", "join", "equal", "within", "encode", "decode", "cursor", "step", "seek", "version", "used", "taken"}
}

// row is a plain cursor: the keys of its range, how many of them stand ahead of it, and what the keys' version was.
type row struct {
	keys    []uint64
	ahead   int
	version uint64
}

func (r *row) step(back bool) answer {
	switch {
	case back && r.ahead > 0:
		r.ahead--
		return answer{k: r.keys[r.ahead]}
	case !back && r.ahead < len(r.keys):
		r.ahead++
		return answer{k: r.keys[r.ahead-1]}
	}
	return failed(api.ErrEnd)
}

func (r *row) seek(k uint64) answer {
	r.ahead, _ = slices.BinarySearch(r.keys, k)
	if r.ahead == len(r.keys) {
		return failed(api.ErrEnd)
	}
	return answer{k: r.keys[r.ahead]}
}

// thing is a set or a map in the plainest way: a list of pairs, which rise.
type thing struct {
	options shelf.Options
	pairs   []api.Pair
	// keyed is how often a key was changed, valued how often a value alone was.
	keyed, valued uint64
	cursor        *row
	// twin is told the same by the layers below: it says what fits, and how much is used.
	twin face.Set
}

func newTwin(o shelf.Options) (face.Set, api.Errno) {
	if !o.Map {
		return face.New(o.Tag, o.Seed, o.Limit)
	}
	m, e := dict.New(o.Tag, o.Seed, o.Limit)
	if e != api.OK {
		return nil, e
	}
	return m, e
}

// of is a twin of these pairs.
func (x *thing) of(l []api.Pair) (face.Set, api.Errno) {
	s, e := newTwin(x.options)
	for _, y := range l {
		if e != api.OK {
			return nil, e
		}
		if m, ok := s.(*dict.Map); ok {
			e = m.Put(y.Key, y.Value)
		} else {
			e = s.Insert(y.Key)
		}
	}
	return s, e
}

// place is where k is, or would be; is it there?
func (x *thing) place(k uint64) (int, bool) {
	return slices.BinarySearchFunc(x.pairs, k, func(y api.Pair, k uint64) int { return cmp.Compare(y.Key, k) })
}

// now lets it have these pairs.
func (x *thing) now(l []api.Pair) {
	switch {
	case !slices.Equal(keysOf(l), keysOf(x.pairs)):
		x.keyed++
	case !slices.Equal(l, x.pairs):
		x.valued++
	}
	x.pairs = l
}

// anew is of all these pairs, made anew, if they fit.
func (x *thing) anew(l []api.Pair) api.Errno {
	twin, e := x.of(l)
	if e == api.OK {
		x.twin = twin
		x.now(l)
	}
	return e
}

func (x *thing) insert(k uint64) answer {
	e := x.twin.Insert(k)
	i, there := x.place(k)
	if there {
		return failed(api.ErrExists)
	}
	if e == api.OK {
		x.keyed++
		x.pairs = slices.Insert(x.pairs, i, p(k, 0))
	}
	return failed(e)
}

func (x *thing) put(k, v uint64) answer {
	m, ok := x.twin.(*dict.Map)
	if !ok {
		return failed(api.ErrKind)
	}
	e := m.Put(k, v)
	i, there := x.place(k)
	if there {
		if x.pairs[i].Value != v {
			x.valued++
		}
		x.pairs[i].Value = v
		return answer{}
	}
	if e == api.OK {
		x.keyed++
		x.pairs = slices.Insert(x.pairs, i, p(k, v))
	}
	return failed(e)
}

func (x *thing) delete(k uint64) answer {
	e := x.twin.Delete(k)
	i, there := x.place(k)
	if !there {
		return failed(api.ErrNone)
	}
	if e == api.OK {
		x.keyed++
		x.pairs = slices.Delete(x.pairs, i, i+1)
	}
	return failed(e)
}

func (x *thing) get(k uint64) answer {
	i, there := x.place(k)
	switch {
	case !x.options.Map:
		return failed(api.ErrKind)
	case !there:
		return failed(api.ErrNone)
	}
	return answer{k: x.pairs[i].Value}
}

// at is the key of that place, or that error.
func (x *thing) at(i int, e api.Errno) answer {
	if i < 0 || i >= len(x.pairs) {
		return failed(e)
	}
	return answer{k: x.pairs[i].Key}
}

func (x *thing) prev(k uint64) answer {
	i, there := x.place(k)
	if !there {
		i--
	}
	return x.at(i, api.ErrNone)
}

// without is the pairs whose keys aren't from from up to to.
func (x *thing) without(from, to uint64) []api.Pair {
	return slices.DeleteFunc(slices.Clone(x.pairs), func(y api.Pair) bool { return from <= y.Key && y.Key <= to })
}

func (x *thing) count(from, to uint64) answer {
	if from > to {
		return failed(api.ErrOrder)
	}
	return answer{n: len(x.pairs) - len(x.without(from, to))}
}

func (x *thing) wipe(from, to uint64) answer {
	a := x.count(from, to)
	if a.e != api.OK {
		return a
	}
	l := x.without(from, to)
	if x.options.Map {
		if e := x.anew(l); e != api.OK {
			return failed(e)
		}
		return a
	}
	if _, e := face.Wipe(x.twin, from, to); e != api.OK {
		return failed(e)
	}
	x.now(l)
	return a
}

func (x *thing) clear() answer {
	x.twin.Clear()
	x.now(nil)
	return answer{}
}

// joined is what op says of these lists of keys.
func joined(op int, l [][]uint64) []uint64 {
	var r []uint64
	for _, k := range rising(slices.Concat(l...)) {
		n := 0
		for _, x := range l {
			if _, there := slices.BinarySearch(x, k); there {
				n++
			}
		}
		_, first := slices.BinarySearch(l[0], k)
		if op == 0 || op == 1 && n == len(l) || op == 2 && n == 1 && first || op == 3 && n%2 == 1 {
			r = append(r, k)
		}
	}
	return r
}

func (x *thing) join(op int, of []*thing) answer {
	switch {
	case x.options.Map:
		return failed(api.ErrKind)
	case op < 0 || op > 3:
		return failed(api.ErrArg)
	}
	var l [][]uint64
	for _, y := range of {
		l = append(l, keysOf(y.pairs))
	}
	return failed(x.anew(bare(pairs(0, joined(op, l)...))))
}

func (x *thing) within(y *thing) bool {
	for _, k := range keysOf(x.pairs) {
		if _, there := y.place(k); !there {
			return false
		}
	}
	return true
}

func (x *thing) encode() answer {
	if x.options.Map {
		return encoded(code.Pairs(x.pairs))
	}
	return encoded(code.Keys(keysOf(x.pairs)))
}

func (x *thing) decode(b []byte) answer {
	l, isPairs, e := code.Parse(b)
	if e != api.OK || isPairs != x.options.Map {
		return failed(api.ErrForm)
	}
	return failed(x.anew(l))
}

func (x *thing) open(from, to uint64) answer {
	if from > to {
		return failed(api.ErrOrder)
	}
	x.cursor = &row{version: x.keyed}
	for _, k := range keysOf(x.pairs) {
		if from <= k && k <= to {
			x.cursor.keys = append(x.cursor.keys, k)
		}
	}
	return answer{}
}

// move is what f answers of the cursor, if it is of use.
func (x *thing) move(f func(r *row) answer) answer {
	switch {
	case x.cursor == nil:
		return failed(api.ErrNone)
	case x.cursor.version != x.keyed:
		return failed(api.ErrStale)
	}
	return f(x.cursor)
}

// table is a shelf in the plainest way.
type table [api.MaxHandles]*thing

func (m *table) at(h int) *thing {
	if h < 0 || h >= len(m) {
		return nil
	}
	return m[h]
}

func (m *table) open(h int, o shelf.Options) answer {
	switch {
	case h < 0 || h >= len(m):
		return failed(api.ErrHandle)
	case m[h] != nil:
		return failed(api.ErrExists)
	}
	twin, e := newTwin(o)
	if e == api.OK {
		m[h] = &thing{options: o, twin: twin}
	}
	return failed(e)
}

// others are what the handles have, if all of them are open.
func (m *table) others(of []int) ([]*thing, bool) {
	var l []*thing
	for _, h := range of {
		if m.at(h) == nil {
			return nil, false
		}
		l = append(l, m[h])
	}
	return l, true
}

func (m *table) ask(c call) answer {
	x := m.at(c.h)
	of := c.of
	if c.name == "equal" || c.name == "within" {
		of = []int{c.i}
	}
	l, ok := m.others(of)
	switch {
	case c.name == "open":
		return m.open(c.h, c.options)
	case c.name == "taken":
		return answer{yes: x != nil}
	case x == nil || !ok:
		return failed(api.ErrHandle)
	}
	switch c.name {
	case "close":
		m[c.h] = nil
		return answer{}
	case "join":
		return x.join(c.i, l)
	case "equal":
		return answer{yes: x.within(l[0]) && l[0].within(x)}
	case "within":
		return answer{yes: x.within(l[0])}
	}
	return x.ask(c)
}

// ask is what a call answers that is of one handle alone.
func (x *thing) ask(c call) answer {
	i, there := x.place(c.k)
	switch c.name {
	case "insert":
		return x.insert(c.k)
	case "put":
		return x.put(c.k, c.to)
	case "delete":
		return x.delete(c.k)
	case "get":
		return x.get(c.k)
	case "has":
		return answer{yes: there}
	case "next":
		return x.at(i, api.ErrNone)
	case "prev":
		return x.prev(c.k)
	case "len":
		return answer{n: len(x.pairs)}
	case "rank":
		return answer{n: i}
	case "select":
		return x.at(c.i, api.ErrIndex)
	case "count":
		return x.count(c.k, c.to)
	case "wipe":
		return x.wipe(c.k, c.to)
	case "clear":
		return x.clear()
	case "encode":
		return x.encode()
	case "decode":
		return x.decode(c.bytes)
	case "cursor":
		return x.open(c.k, c.to)
	case "step":
		return x.move(func(r *row) answer { return r.step(c.back) })
	case "seek":
		return x.move(func(r *row) answer { return r.seek(c.k) })
	case "version":
		return answer{k: x.keyed + x.valued}
	}
	return answer{n: x.twin.Used()}
}

// state is what is told of a handle that would show a change, its cursor's place too.
type state struct {
	taken                                  bool
	len, used, version, bytes, forth, back answer
}

// seen is the state of each handle. What is told of a cursor leaves it where it was.
func seen(s *shelf.Shelf) [api.MaxHandles]state {
	var r [api.MaxHandles]state
	for h := range r {
		x := state{taken: s.Taken(h)}
		for name, to := range map[string]*answer{"len": &x.len, "used": &x.used, "version": &x.version, "encode": &x.bytes} {
			*to = ask(s, call{name: name, h: h})
		}
		for back, to := range map[bool]*answer{false: &x.forth, true: &x.back} {
			*to = ask(s, call{name: "step", h: h, back: back})
			if to.e == api.OK {
				ask(s, call{name: "step", h: h, back: !back})
			}
		}
		r[h] = x
	}
	return r
}

// pair is a shelf, and the plain one that it is held against.
type pair struct {
	t *testing.T
	s *shelf.Shelf
	m *table
}

func newPair(t *testing.T) *pair {
	t.Helper()
	s := shelf.New()
	same(t, s != nil, true, "New")
	return &pair{t, s, &table{}}
}

// ask is what both answer.
func (x *pair) ask(c call) answer {
	x.t.Helper()
	a := ask(x.s, c)
	same(x.t, a, x.m.ask(c), "a call", c)
	return a
}

// asked is ask of something that must answer this.
func (x *pair) asked(c call, want answer, about ...any) {
	x.t.Helper()
	same(x.t, x.ask(c), want, "a call", c, about)
}

// refused is ask of something that must answer this error, and so changes nothing.
func (x *pair) refused(c call, e api.Errno, about ...any) {
	x.t.Helper()
	was := seen(x.s)
	x.asked(c, failed(e), about...)
	same(x.t, seen(x.s), was, "what is told behind an error", c, about)
}

// made lets a handle be open, with these pairs (of a set: with their keys).
func (x *pair) made(h int, o shelf.Options, l ...api.Pair) {
	x.t.Helper()
	x.asked(call{name: "open", h: h, options: o}, answer{}, o)
	for _, y := range l {
		x.asked(call{name: adds(o), h: h, k: y.Key, to: y.Value}, answer{}, o)
	}
}

// adds is the call by which a key comes with a value, if it can have one.
func adds(o shelf.Options) string {
	if o.Map {
		return "put"
	}
	return "insert"
}

// whole holds all that is told of the handles against the plain ones: keys, values, places, versions and bytes.
func (x *pair) whole() {
	x.t.Helper()
	for h := range api.MaxHandles {
		for _, name := range []string{"taken", "len", "used", "version", "encode"} {
			x.ask(call{name: name, h: h})
		}
		if y := x.m[h]; y != nil {
			for i, z := range y.pairs {
				x.asked(call{name: "select", h: h, i: i}, answer{k: z.Key})
				if y.options.Map {
					x.asked(call{name: "get", h: h, k: z.Key}, answer{k: z.Value})
				}
			}
		}
	}
}

// one is the options of a set or a map of a tag, whose limit is the greatest.
func one(tag int, isMap bool) shelf.Options {
	return shelf.Options{Map: isMap, Tag: tag, Seed: uint64(tag) * 77, Limit: api.MaxCap}
}

// kinds are the options of sets and of maps of all tags.
func kinds() []shelf.Options {
	var l []shelf.Options
	for _, tag := range tags() {
		l = append(l, one(tag, false), one(tag, true))
	}
	return l
}

// fits is the least limit with which these pairs can be put in one by one, in that order: as keys, and as values if they have some.
func fits(t *testing.T, o shelf.Options, l []api.Pair) int {
	t.Helper()
	s, e := face.New(o.Tag, 8, api.MaxCap)
	same(t, e, api.OK, "layer 20's New")
	most := 0
	for _, x := range l {
		s.Insert(x.Key)
		most = max(most, s.Used())
		if o.Map {
			most = max(most, s.Len())
		}
	}
	return most
}

// with is o with another limit.
func with(o shelf.Options, limit int) shelf.Options {
	o.Limit = limit
	return o
}

// bytesOf are the bytes that a set or a map of these pairs has.
func bytesOf(t *testing.T, isMap bool, l []api.Pair) []byte {
	t.Helper()
	var b []byte
	e := api.OK
	if isMap {
		b, e = code.Pairs(l)
	} else {
		b, e = code.Keys(keysOf(l))
	}
	same(t, e, api.OK, "layer 19's bytes")
	return b
}
