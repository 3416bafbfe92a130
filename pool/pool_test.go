package pool_test

import (
	"iter"
	"math"
	"runtime"
	"slices"
	"testing"
	"weak"

	"stepstone/api"
	"stepstone/count"
	"stepstone/pool"
)

func same[T comparable](t *testing.T, got, want T, what string, about ...any) {
	t.Helper()
	if got != want {
		t.Fatalf("%s %v: %v, not %v", what, about, got, want)
	}
}

func list[T comparable](t *testing.T, got, want []T, what string, about ...any) {
	t.Helper()
	if !slices.Equal(got, want) {
		t.Fatalf("%s %v: %v, not %v", what, about, got, want)
	}
}

func newPool[T any](t *testing.T, m *count.Meter, limit int) *pool.Pool[T] {
	t.Helper()
	p, e := pool.New[T](m, limit)
	if e != api.OK || p == nil {
		t.Fatalf("New %d: %v, %v", limit, p, e)
	}
	return p
}

func alloc[T any](t *testing.T, p *pool.Pool[T], v T, want int) {
	t.Helper()
	if i, ok := p.Alloc(v); i != want || !ok {
		t.Fatalf("Alloc %v: %v, %v, not %v", v, i, ok, want)
	}
}

func allocNone[T any](t *testing.T, p *pool.Pool[T], v T) {
	t.Helper()
	if i, ok := p.Alloc(v); i != 0 || ok {
		t.Fatalf("Alloc %v: %v, %v", v, i, ok)
	}
}

// entry is a place that is taken, and its value.
type entry[T any] struct {
	place int
	value T
}

func collect[T any](s iter.Seq2[int, T]) []entry[T] {
	var l []entry[T]
	for i, v := range s {
		l = append(l, entry[T]{i, v})
	}
	return l
}

// has holds all that a pool tells without a step against its entries, rising, and its limit.
func has[T comparable](t *testing.T, p *pool.Pool[T], limit int, want ...entry[T]) {
	t.Helper()
	list(t, collect(p.All()), want, "All")
	same(t, p.Len(), len(want), "Len")
	same(t, p.Limit(), limit, "Limit")
	rest := limit - len(want)
	for _, n := range []int{math.MinInt, math.MinInt + 1, -1, 0, 1, rest - 1, rest, rest + 1, limit, limit + 1, api.MaxCap + 1, math.MaxInt - 1, math.MaxInt} {
		same(t, p.Room(n), n <= rest, "Room", n, "of", rest)
	}
	for _, i := range places(want) {
		at := slices.IndexFunc(want, func(x entry[T]) bool { return x.place == i })
		same(t, p.Live(i), at >= 0, "Live", i)
		var value T
		if at >= 0 {
			value = want[at].value
		}
		v, ok := p.Peek(i)
		same(t, ok, at >= 0, "Peek", i)
		same(t, v, value, "Peek", i)
	}
}

// places are those of the entries, those between and about them, and numbers of which there are no places.
func places[T any](l []entry[T]) []int {
	var r []int
	for i := range 12 {
		r = append(r, i)
	}
	for _, x := range l {
		r = append(r, x.place-1, x.place, x.place+1)
	}
	return append(r, wrong()...)
}

// wrong are numbers that no place has.
func wrong() []int {
	return []int{math.MinInt, math.MinInt + 1, -1 << 32, -api.MaxCap, -2, -1, api.MaxCap, api.MaxCap + 1, 1 << 32, math.MaxInt - 1, math.MaxInt}
}

// steps is what a meter tells: Taken, Reads, Calls, Peak, Starts.
type steps [5]int

func tell(m *count.Meter) steps {
	return steps{m.Taken(), m.Reads(), m.Calls(), m.Peak(), m.Starts()}
}

// P4.1

func TestNew(t *testing.T) {
	for _, limit := range []int{0, 1, 2, 63, 4096, api.MaxCap - 1, api.MaxCap} {
		for _, m := range []*count.Meter{nil, count.New()} {
			p := newPool[string](t, m, limit)
			has(t, p, limit)
			same(t, tell(p.Meter), steps{}, "steps of", limit)
		}
	}
}

func TestLimitsThereCantBe(t *testing.T) {
	m := count.New()
	m.Read()
	for _, limit := range []int{math.MinInt, math.MinInt + 1, -api.MaxCap, -2, -1, api.MaxCap + 1, api.MaxCap + 2, 2 * api.MaxCap, 1 << 32, math.MaxInt - 1, math.MaxInt} {
		for _, x := range []*count.Meter{nil, m} {
			p, e := pool.New[int](x, limit)
			same(t, e, api.ErrArg, "New", limit)
			same(t, p, nil, "New", limit)
		}
	}
	same(t, tell(m), steps{1, 1, 0, 1, 0}, "steps")
}

func TestAlloc(t *testing.T) {
	p := newPool[string](t, nil, 4)
	alloc(t, p, "a", 0)
	has(t, p, 4, entry[string]{0, "a"})
	alloc(t, p, "b", 1)
	alloc(t, p, "", 2)
	has(t, p, 4, entry[string]{0, "a"}, entry[string]{1, "b"}, entry[string]{2, ""})
	alloc(t, p, "a", 3)
	has(t, p, 4, entry[string]{0, "a"}, entry[string]{1, "b"}, entry[string]{2, ""}, entry[string]{3, "a"})
}

func TestFull(t *testing.T) {
	p := newPool[string](t, nil, 3)
	alloc(t, p, "a", 0)
	alloc(t, p, "b", 1)
	alloc(t, p, "c", 2)
	full := []entry[string]{{0, "a"}, {1, "b"}, {2, "c"}}
	for range 3 {
		allocNone(t, p, "d")
		has(t, p, 3, full...)
	}
	same(t, p.Free(1), true, "Free")
	has(t, p, 3, entry[string]{0, "a"}, entry[string]{2, "c"})
	alloc(t, p, "e", 1)
	allocNone(t, p, "f")
	has(t, p, 3, entry[string]{0, "a"}, entry[string]{1, "e"}, entry[string]{2, "c"})
}

func TestLimitOfNone(t *testing.T) {
	p := newPool[int](t, nil, 0)
	for range 3 {
		allocNone(t, p, 7)
		has(t, p, 0)
		same(t, p.Free(0) || p.Put(0, 1), false, "a place of none")
		p.Clear()
	}
}

func TestLimitOfOne(t *testing.T) {
	p := newPool[int](t, nil, 1)
	for v := range 5 {
		alloc(t, p, v, 0)
		allocNone(t, p, v)
		has(t, p, 1, entry[int]{0, v})
		same(t, p.Free(0), true, "Free")
		has(t, p, 1)
	}
}

func TestGreatestLimit(t *testing.T) {
	p := newPool[int](t, nil, api.MaxCap)
	for range 2 {
		for i := range api.MaxCap {
			alloc(t, p, -i, i)
		}
		allocNone(t, p, 1)
		same(t, p.Len(), api.MaxCap, "Len")
		same(t, p.Room(0), true, "Room")
		same(t, p.Room(1), false, "Room")
		last := api.MaxCap - 1
		same(t, p.Free(0) && p.Free(last) && p.Free(77), true, "Free")
		same(t, p.Live(last) || p.Live(last+1), false, "Live")
		same(t, p.Room(3), true, "Room")
		same(t, p.Room(4), false, "Room")
		alloc(t, p, 1, 77)
		alloc(t, p, 2, last)
		alloc(t, p, 3, 0)
		allocNone(t, p, 4)
		p.Clear()
		has(t, p, api.MaxCap)
	}
}

func TestTheLastFreedIsTakenFirst(t *testing.T) {
	p := newPool[int](t, nil, 9)
	for i := range 6 {
		alloc(t, p, i, i)
	}
	for _, i := range []int{4, 0, 5, 2} {
		same(t, p.Free(i), true, "Free", i)
	}
	alloc(t, p, 10, 2)
	alloc(t, p, 11, 5)
	// What is freed between goes ahead of what was freed before.
	same(t, p.Free(3), true, "Free")
	same(t, p.Free(2), true, "Free")
	for n, i := range []int{2, 3, 0, 4, 6, 7, 8} {
		alloc(t, p, 20+n, i)
	}
	allocNone(t, p, 0)
	has(t, p, 9, []entry[int]{{0, 22}, {1, 1}, {2, 20}, {3, 21}, {4, 23}, {5, 11}, {6, 24}, {7, 25}, {8, 26}}...)
}

// TestTakenAgainCountsOnce: the next new place is as many as there ever were places, not as often as one was taken.
func TestTakenAgainCountsOnce(t *testing.T) {
	p := newPool[int](t, nil, 3)
	for v := range 10 {
		alloc(t, p, v, 0)
		same(t, p.Free(0), true, "Free")
	}
	for i := range 3 {
		alloc(t, p, i, i)
	}
	allocNone(t, p, 3)
}

func TestFree(t *testing.T) {
	p := newPool[string](t, nil, 4)
	alloc(t, p, "a", 0)
	alloc(t, p, "b", 1)
	for _, i := range append(wrong(), 2, 3, 4, 5) {
		same(t, p.Free(i), false, "Free", i)
		has(t, p, 4, entry[string]{0, "a"}, entry[string]{1, "b"})
	}
	same(t, p.Free(1), true, "Free")
	for range 3 {
		same(t, p.Free(1), false, "Free again")
		has(t, p, 4, entry[string]{0, "a"})
	}
	// Each is free but once.
	alloc(t, p, "c", 1)
	alloc(t, p, "d", 2)
	alloc(t, p, "e", 3)
	allocNone(t, p, "f")
}

func TestAtAndPeek(t *testing.T) {
	m := count.New()
	p := newPool[string](t, m, 5)
	for i, v := range []string{"a", "", "c", "d"} {
		alloc(t, p, v, i)
	}
	same(t, p.Free(2), true, "Free")
	want := steps{}
	for _, i := range append(wrong(), 2, 4, 5, 6) {
		v, ok := p.At(i)
		same(t, ok, false, "At", i)
		same(t, v, "", "At", i)
		same(t, tell(m), want, "steps of At", i)
	}
	for _, x := range []entry[string]{{0, "a"}, {3, "d"}, {1, ""}, {3, "d"}} {
		v, ok := p.At(x.place)
		same(t, ok, true, "At", x.place)
		same(t, v, x.value, "At", x.place)
		want = steps{want[0] + 1, want[1] + 1, 0, want[3] + 1, 0}
		same(t, tell(m), want, "steps of At", x.place)
	}
	has(t, p, 5, entry[string]{0, "a"}, entry[string]{1, ""}, entry[string]{3, "d"})
	same(t, tell(m), want, "steps of Peek")
	alloc(t, p, "e", 2)
	if v, ok := p.At(2); v != "e" || !ok {
		t.Fatal(v, ok)
	}
}

func TestPut(t *testing.T) {
	p := newPool[string](t, nil, 4)
	alloc(t, p, "a", 0)
	alloc(t, p, "b", 1)
	alloc(t, p, "c", 2)
	same(t, p.Free(1), true, "Free")
	for _, i := range append(wrong(), 1, 3, 4, 5) {
		same(t, p.Put(i, "x"), false, "Put", i)
		has(t, p, 4, entry[string]{0, "a"}, entry[string]{2, "c"})
	}
	same(t, p.Put(2, "y"), true, "Put")
	same(t, p.Put(0, ""), true, "Put")
	has(t, p, 4, entry[string]{0, ""}, entry[string]{2, "y"})
	// What wasn't put isn't there behind the place's taking either.
	alloc(t, p, "z", 1)
	alloc(t, p, "", 3)
	has(t, p, 4, entry[string]{0, ""}, entry[string]{1, "z"}, entry[string]{2, "y"}, entry[string]{3, ""})
}

func TestAll(t *testing.T) {
	p := newPool[string](t, nil, 6)
	all := p.All()
	list(t, collect(all), nil, "All of none")
	for i, v := range []string{"a", "b", "c", "d", "e"} {
		alloc(t, p, v, i)
	}
	same(t, p.Free(3) && p.Free(0), true, "Free")
	alloc(t, p, "f", 0)
	want := []entry[string]{{0, "f"}, {1, "b"}, {2, "c"}, {4, "e"}}
	for range 2 {
		list(t, collect(all), want, "All, gone through again")
		list(t, collect(p.All()), want, "All")
	}
	for n := 1; n <= len(want); n++ {
		var got []entry[string]
		p.All()(func(i int, v string) bool {
			got = append(got, entry[string]{i, v})
			return len(got) < n
		})
		list(t, got, want[:n], "All, stopped behind", n)
	}
	p.Clear()
	list(t, collect(all), nil, "All behind Clear")
}

func TestClear(t *testing.T) {
	p := newPool[string](t, nil, 4)
	p.Clear()
	has(t, p, 4)
	for range 3 {
		for i, v := range []string{"a", "b", "c"} {
			alloc(t, p, v, i)
		}
		// Neither what was freed nor what was taken stays behind Clear.
		same(t, p.Free(2) && p.Free(0), true, "Free")
		p.Clear()
		has(t, p, 4)
		for i := range 4 {
			same(t, p.Free(i) || p.Put(i, "x"), false, "a place behind Clear", i)
		}
		p.Clear()
		has(t, p, 4)
	}
	for i, v := range []string{"", "f", "g", "h"} {
		alloc(t, p, v, i)
	}
	allocNone(t, p, "i")
	has(t, p, 4, []entry[string]{{0, ""}, {1, "f"}, {2, "g"}, {3, "h"}}...)
	p.Clear()
	has(t, p, 4)
}

func TestMeterThatIsHandedIn(t *testing.T) {
	m := count.New()
	m.Call()
	m.Start()
	p := newPool[int](t, m, 3)
	same(t, p.Meter, m, "the meter")
	same(t, tell(m), steps{0, 0, 1, 1, 1}, "steps behind New")
	alloc(t, p, 5, 0)
	p.At(0)
	p.At(0)
	m.Read()
	same(t, tell(m), steps{3, 3, 1, 3, 1}, "steps")
	same(t, steps{p.Taken(), p.Reads(), p.Calls(), p.Peak(), p.Starts()}, tell(m), "the pool's methods")
	p.Start()
	p.Call()
	p.Read()
	same(t, tell(m), steps{2, 4, 2, 3, 2}, "steps by the pool's methods")
	// One meter may be of two pools.
	o := newPool[string](t, m, 1)
	alloc(t, o, "a", 0)
	o.At(0)
	p.At(0)
	same(t, tell(m), steps{4, 6, 2, 4, 2}, "steps of two pools")
	same(t, o.Taken(), 4, "Taken")
	same(t, count.Sum(p.Meter), 8, "Sum")
}

func TestMetersOfTheirOwn(t *testing.T) {
	p, o := newPool[int](t, nil, 3), newPool[int](t, nil, 3)
	alloc(t, p, 5, 0)
	alloc(t, o, 6, 0)
	p.At(0)
	p.At(0)
	o.Start()
	o.At(0)
	same(t, steps{p.Taken(), p.Reads(), p.Calls(), p.Peak(), p.Starts()}, steps{2, 2, 0, 2, 0}, "steps of the first")
	same(t, steps{o.Taken(), o.Reads(), o.Calls(), o.Peak(), o.Starts()}, steps{1, 1, 0, 1, 1}, "steps of the second")
}

func TestOnlyAtTakesSteps(t *testing.T) {
	m := count.New()
	m.Start()
	m.Call()
	p := newPool[int](t, m, 3)
	for range 2 {
		for i := range 3 {
			alloc(t, p, i, i)
		}
		allocNone(t, p, 9)
		same(t, p.Put(1, 7), true, "Put")
		same(t, p.Free(2), true, "Free")
		for _, i := range append(wrong(), 2) {
			same(t, p.Put(i, 7) || p.Free(i), false, "a place that isn't taken", i)
		}
		has(t, p, 3, entry[int]{0, 0}, entry[int]{1, 7})
		p.Clear()
		same(t, tell(m), steps{1, 0, 1, 1, 1}, "steps")
	}
}

func TestPoolsStandApart(t *testing.T) {
	p, o := newPool[int](t, nil, 3), newPool[int](t, nil, 3)
	alloc(t, p, 1, 0)
	alloc(t, p, 2, 1)
	alloc(t, o, 3, 0)
	same(t, p.Free(0), true, "Free")
	has(t, p, 3, entry[int]{1, 2})
	has(t, o, 3, entry[int]{0, 3})
	o.Clear()
	has(t, p, 3, entry[int]{1, 2})
	alloc(t, o, 4, 0)
	alloc(t, p, 5, 0)
	has(t, p, 3, entry[int]{0, 5}, entry[int]{1, 2})
	has(t, o, 3, entry[int]{0, 4})
}

func TestAnyType(t *testing.T) {
	type node struct {
		word  uint64
		links [2]int
	}
	anyType(t, node{7, [2]int{1, 2}}, node{})
	anyType(t, byte(200), 3)
	anyType(t, new(int), nil)
	anyType(t, make(chan int), nil)
	anyType(t, true, false)
	anyType[any](t, "a", 5)
	anyType(t, struct{}{}, struct{}{})
	p := newPool[[]int](t, nil, 2)
	alloc(t, p, []int{1, 2}, 0)
	alloc(t, p, nil, 1)
	if v, ok := p.At(0); !slices.Equal(v, []int{1, 2}) || !ok {
		t.Fatal(v, ok)
	}
	if v, ok := p.At(1); v != nil || !ok {
		t.Fatal(v, ok)
	}
	f := newPool[func() int](t, nil, 1)
	alloc(t, f, func() int { return 9 }, 0)
	if v, ok := f.Peek(0); !ok || v() != 9 {
		t.Fatal(ok)
	}
	if v, ok := f.Peek(1); ok || v != nil {
		t.Fatal(ok)
	}
}

func anyType[T comparable](t *testing.T, a, b T) {
	t.Helper()
	p := newPool[T](t, nil, 2)
	alloc(t, p, a, 0)
	alloc(t, p, b, 1)
	allocNone(t, p, a)
	has(t, p, 2, entry[T]{0, a}, entry[T]{1, b})
	same(t, p.Put(1, a) && p.Free(0), true, "Put, Free")
	has(t, p, 2, entry[T]{1, a})
	alloc(t, p, b, 0)
	has(t, p, 2, entry[T]{0, b}, entry[T]{1, a})
}

// TestValuesAreLetGo: a pool holds no value but those of the places that are taken.
func TestValuesAreLetGo(t *testing.T) {
	p := newPool[*[64]int](t, nil, 8)
	var held []weak.Pointer[[64]int]
	for i := range 5 {
		v := new([64]int)
		held = append(held, weak.Make(v))
		alloc(t, p, v, i)
	}
	letGo := func(want ...bool) {
		t.Helper()
		runtime.GC()
		for i, w := range held {
			same(t, w.Value() == nil, want[i], "let go", i)
		}
	}
	letGo(false, false, false, false, false)
	same(t, p.Free(1) && p.Put(2, nil) && p.Free(4), true, "Free, Put")
	letGo(false, true, true, false, true)
	p.Clear()
	letGo(true, true, true, true, true)
	runtime.KeepAlive(p)
}

func TestExample(t *testing.T) {
	p := newPool[string](t, nil, 9)
	alloc(t, p, "a", 0)
	alloc(t, p, "b", 1)
	same(t, p.Free(0), true, "Free")
	alloc(t, p, "c", 0)
	has(t, p, 9, entry[string]{0, "c"}, entry[string]{1, "b"})
}

func TestNil(t *testing.T) {
	var p *pool.Pool[string]
	for range 2 {
		for _, i := range append(wrong(), 0, 1) {
			same(t, p.Free(i) || p.Put(i, "a") || p.Live(i) || p.Room(i), false, "nil", i)
			v, ok := p.At(i)
			same(t, ok, false, "nil At", i)
			same(t, v, "", "nil At", i)
			v, ok = p.Peek(i)
			same(t, ok, false, "nil Peek", i)
			same(t, v, "", "nil Peek", i)
		}
		allocNone(t, p, "a")
		same(t, p.Len(), 0, "nil Len")
		same(t, p.Limit(), 0, "nil Limit")
		list(t, collect(p.All()), nil, "nil All")
		p.Clear()
	}
}

// model is a pool as the document's words tell it, kept in the plainest way.
type model struct {
	limit, ever, reads int
	taken              map[int]int
	freed              []int
}

func (m *model) alloc(v int) (int, bool) {
	if len(m.taken) == m.limit {
		return 0, false
	}
	i := m.ever
	if n := len(m.freed); n > 0 {
		i, m.freed = m.freed[n-1], m.freed[:n-1]
	} else {
		m.ever++
	}
	m.taken[i] = v
	return i, true
}

func (m *model) free(i int) bool {
	_, ok := m.taken[i]
	if ok {
		delete(m.taken, i)
		m.freed = append(m.freed, i)
	}
	return ok
}

func (m *model) at(i int) (int, bool) {
	v, ok := m.taken[i]
	if ok {
		m.reads++
	}
	return v, ok
}

func (m *model) put(i, v int) bool {
	_, ok := m.taken[i]
	if ok {
		m.taken[i] = v
	}
	return ok
}

func (m *model) entries() []entry[int] {
	var l []entry[int]
	for i, v := range m.taken {
		l = append(l, entry[int]{i, v})
	}
	slices.SortFunc(l, func(a, b entry[int]) int { return a.place - b.place })
	return l
}

func TestScripts(t *testing.T) {
	for n, limit := range []int{0, 1, 2, 3, 7, 20, 64} {
		script(t, limit, uint64(n))
	}
}

// script tells a pool many things, and holds it against a model.
func script(t *testing.T, limit int, seed uint64) {
	t.Helper()
	number := func(n int) int {
		seed = seed*6364136223846793005 + 1442695040888963407
		return int(seed >> 33 % uint64(n))
	}
	p := newPool[int](t, nil, limit)
	m := &model{limit: limit, taken: map[int]int{}}
	for v := range 3000 {
		i := number(limit+4) - 2
		switch number(16) {
		case 0, 1, 2, 3, 4, 5:
			got, ok := p.Alloc(v)
			want, wantOK := m.alloc(v)
			same(t, got, want, "Alloc", v)
			same(t, ok, wantOK, "Alloc", v)
		case 6, 7, 8, 9:
			same(t, p.Free(i), m.free(i), "Free", i)
		case 10, 11, 12:
			got, ok := p.At(i)
			want, wantOK := m.at(i)
			same(t, got, want, "At", i)
			same(t, ok, wantOK, "At", i)
		case 13, 14:
			same(t, p.Put(i, v), m.put(i, v), "Put", i)
		case 15:
			if number(12) == 0 {
				p.Clear()
				m.taken, m.freed, m.ever = map[int]int{}, nil, 0
			}
		}
		has(t, p, limit, m.entries()...)
		same(t, p.Reads(), m.reads, "Reads")
	}
}
