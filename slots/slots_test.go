package slots_test

import (
	"maps"
	"math"
	"slices"
	"testing"

	"stepstone/api"
	"stepstone/count"
	"stepstone/slots"
)

const greatest = math.MaxUint64

func same[T comparable](t *testing.T, got, want T, what string, about ...any) {
	if got != want {
		t.Helper()
		t.Fatalf("%s %v: %v, not %v", what, about, got, want)
	}
}

// list holds lists against each other; long ones aren't told.
func list[T comparable](t *testing.T, got, want []T, what string, about ...any) {
	if !slices.Equal(got, want) {
		t.Helper()
		t.Fatalf("%s %v: %v (%d), not %v (%d)", what, about, got[:min(len(got), 40)], len(got), want[:min(len(want), 40)], len(want))
	}
}

// numbers answers a function that tells numbers below n, on and on, by the seed.
func numbers(seed uint64) func(n int) int {
	return func(n int) int {
		seed = seed*6364136223846793005 + 1442695040888963407
		return int(seed >> 33 % uint64(n))
	}
}

// seeds are some of all sizes.
func seeds() []uint64 {
	return []uint64{0, 1, 3, 1 << 32, 1 << 63, greatest, 0x9e3779b97f4a7c15}
}

// put is what Put answers, and got what Get does.
type put struct {
	fresh bool
	e     api.Errno
}

type got struct {
	v  uint64
	ok bool
}

func puts(fresh bool, e api.Errno) put { return put{fresh, e} }

func gets(v uint64, ok bool) got { return got{v, ok} }

// step is slots of one limit, by several seeds, and what they have: each call is made of all of them.
type step struct {
	t     *testing.T
	l     []*slots.Slots
	limit int
	want  map[uint64]uint64
}

func newStep(t *testing.T, limit int, seeds ...uint64) *step {
	t.Helper()
	x := &step{t: t, limit: limit, want: map[uint64]uint64{}}
	for _, seed := range seeds {
		s, e := slots.New(seed, limit)
		same(t, e, api.OK, "New", seed, limit)
		x.l = append(x.l, s)
	}
	return x
}

func (x *step) put(k, v uint64) put {
	x.t.Helper()
	_, there := x.want[k]
	want := put{!there, api.OK}
	if !there && len(x.want) >= x.limit {
		want = put{false, api.ErrFull}
	}
	if want.e == api.OK {
		x.want[k] = v
	}
	for i, s := range x.l {
		same(x.t, puts(s.Put(k, v)), want, "Put", k, v, i)
	}
	return want
}

func (x *step) get(k uint64) got {
	x.t.Helper()
	v, there := x.want[k]
	for i, s := range x.l {
		same(x.t, gets(s.Get(k)), got{v, there}, "Get", k, i)
	}
	return got{v, there}
}

func (x *step) drop(k uint64) bool {
	x.t.Helper()
	_, there := x.want[k]
	delete(x.want, k)
	for i, s := range x.l {
		same(x.t, s.Drop(k), there, "Drop", k, i)
	}
	return there
}

func (x *step) clear() {
	x.t.Helper()
	clear(x.want)
	for _, s := range x.l {
		s.Clear()
	}
	x.whole()
}

func (x *step) gets(l ...uint64) {
	x.t.Helper()
	var want []uint64
	for _, k := range l {
		if v, there := x.want[k]; there {
			want = append(want, v)
		}
	}
	for i, s := range x.l {
		list(x.t, s.Gets(l...), want, "Gets", i)
	}
}

// sizes holds Len and Room.
func (x *step) sizes() {
	x.t.Helper()
	rest := x.limit - len(x.want)
	for i, s := range x.l {
		same(x.t, s.Len(), len(x.want), "Len", i)
		for _, n := range []int{math.MinInt, math.MinInt + 1, -api.MaxCap, -1, 0, 1, rest - 1, rest, rest + 1, x.limit, x.limit + 1, api.MaxCap, api.MaxCap + 1, math.MaxInt - 1, math.MaxInt} {
			same(x.t, s.Room(n), n <= rest, "Room", n, "of", rest, i)
		}
	}
}

// whole holds all that is told of what they have, and of keys that they haven't.
func (x *step) whole() {
	x.t.Helper()
	x.sizes()
	l := []uint64{0, 1, 2, 255, 256, 1 << 32, 1 << 63, greatest - 1, greatest}
	for _, k := range slices.Sorted(maps.Keys(x.want)) {
		l = append(l, k, k+1, k, k^1<<40)
	}
	for _, k := range l {
		x.get(k)
	}
	x.gets(l...)
	slices.Reverse(l)
	x.gets(l...)
}

// P22.1

func TestNew(t *testing.T) {
	for _, limit := range []int{0, 1, 2, 1000, api.MaxCap - 1, api.MaxCap} {
		x := newStep(t, limit, seeds()...)
		x.whole()
		for i, s := range x.l {
			same(t, s.Taken(), s.Calls(), "Taken behind asking alone", i)
			same(t, s.Reads(), 0, "Reads: nothing was there", i)
		}
	}
}

func TestLimitsThereCantBe(t *testing.T) {
	for _, limit := range []int{math.MinInt, math.MinInt + 1, -1 << 32, -api.MaxCap, -2, -1, api.MaxCap + 1, api.MaxCap + 2, 2 * api.MaxCap, 1 << 32, math.MaxInt - 1, math.MaxInt} {
		for _, seed := range seeds() {
			s, e := slots.New(seed, limit)
			same(t, e, api.ErrArg, "New", seed, limit)
			same(t, s, nil, "New", seed, limit)
		}
	}
}

// TestExample: Put 5: 7, Get 5 = 7, Drop 5, Get 5: none.
func TestExample(t *testing.T) {
	for _, seed := range seeds() {
		s, e := slots.New(seed, 1)
		same(t, e, api.OK, "New")
		same(t, puts(s.Put(5, 7)), put{true, api.OK}, "Put")
		same(t, gets(s.Get(5)), got{7, true}, "Get")
		same(t, s.Drop(5), true, "Drop")
		same(t, gets(s.Get(5)), got{}, "Get behind Drop")
		same(t, s.Drop(5), false, "Drop of none")
	}
}

func TestByHand(t *testing.T) {
	for _, seed := range seeds() {
		s, e := slots.New(seed, 3)
		same(t, e, api.OK, "New")
		same(t, puts(s.Put(0, 0)), put{true, api.OK}, "Put: a value of 0 is one")
		same(t, gets(s.Get(0)), got{0, true}, "Get")
		same(t, puts(s.Put(0, 0)), put{false, api.OK}, "Put of the same")
		same(t, puts(s.Put(greatest, greatest)), put{true, api.OK}, "Put")
		same(t, gets(s.Get(greatest)), got{greatest, true}, "Get")
		same(t, gets(s.Get(greatest-1)), got{}, "Get")
		same(t, puts(s.Put(0, 9)), put{false, api.OK}, "Put of another value")
		same(t, gets(s.Get(0)), got{9, true}, "Get")
		same(t, s.Len(), 2, "Len")
		same(t, s.Room(1), true, "Room")
		same(t, s.Room(2), false, "Room")
		same(t, puts(s.Put(1, 8)), put{true, api.OK}, "Put")
		same(t, puts(s.Put(2, 8)), put{false, api.ErrFull}, "Put of what doesn't fit")
		same(t, gets(s.Get(2)), got{}, "Get of what didn't fit")
		list(t, s.Gets(1, 0, 2, greatest, 1), []uint64{8, 9, greatest, 8}, "Gets")
		same(t, s.Drop(0), true, "Drop")
		list(t, s.Gets(1, 0, 2, greatest, 1), []uint64{8, greatest, 8}, "Gets")
		same(t, puts(s.Put(2, 7)), put{true, api.OK}, "Put in its place")
		list(t, s.Gets(0, 1, 2, greatest), []uint64{8, 7, greatest}, "Gets")
	}
}

// ends are keys and values: the least, the greatest, and others.
func ends() []uint64 {
	return []uint64{0, 1, 2, 7, 255, 256, 1<<32 - 1, 1 << 32, 1 << 63, greatest - 1, greatest}
}

func TestKeysAndValues(t *testing.T) {
	for _, limit := range []int{1, 2, 5, len(ends()), api.MaxCap} {
		x := newStep(t, limit, seeds()...)
		for i, v := range ends() {
			for _, k := range ends() {
				x.put(k, v)
				x.get(k)
			}
			x.whole()
			for _, k := range ends()[:i] {
				x.drop(k)
				x.get(k)
				x.sizes()
			}
			x.drop(3)
			x.whole()
		}
	}
}

// TestKeyIsntItsValue: each key's value is its own, also where others have the same one.
func TestKeyIsntItsValue(t *testing.T) {
	x := newStep(t, 500, 1, 2)
	for k := range uint64(500) {
		x.put(k, (k+250)%500)
	}
	x.whole()
	for k := range uint64(500) {
		x.put(k, 7)
	}
	x.put(250, 8)
	x.whole()
}

func TestAtTheLimit(t *testing.T) {
	for _, limit := range []int{0, 1, 2, 3, 7, 8, 9, 64, 1000} {
		x := newStep(t, limit, seeds()...)
		for k := range uint64(limit) {
			same(t, x.put(k*k, k), put{true, api.OK}, "Put", k)
		}
		x.whole()
		for range 3 {
			same(t, x.put(greatest, 5), put{false, api.ErrFull}, "Put of what doesn't fit", limit)
			same(t, x.get(greatest), got{}, "Get of what didn't fit", limit)
		}
		x.whole()
		for k := range uint64(limit) {
			same(t, x.put(k*k, k+1), put{false, api.OK}, "Put of what is there", k)
		}
		x.whole()
		for k := range uint64(limit) {
			same(t, x.drop(k*k), true, "Drop", k)
			same(t, x.put(greatest-k, k+2), put{true, api.OK}, "Put behind Drop", k)
			same(t, x.put(k*k, 1), put{false, api.ErrFull}, "Put of what was dropped", k)
			same(t, x.get(k*k), got{}, "Get of what was dropped", k)
		}
		x.whole()
	}
}

// TestNoRoomAtAll: of limit 0.
func TestNoRoomAtAll(t *testing.T) {
	x := newStep(t, 0, seeds()...)
	for _, k := range ends() {
		same(t, x.put(k, k), put{false, api.ErrFull}, "Put", k)
		same(t, x.drop(k), false, "Drop", k)
	}
	x.clear()
}

// TestGreatestLimit: MaxCap have a value, and no more.
func TestGreatestLimit(t *testing.T) {
	s, e := slots.New(3, api.MaxCap)
	same(t, e, api.OK, "New")
	for k := range uint64(api.MaxCap) {
		if fresh, e := s.Put(k*0x9e3779b97f4a7c15, k); !fresh || e != api.OK {
			t.Fatal(k, fresh, e)
		}
	}
	same(t, s.Room(1), false, "Room of one")
	same(t, s.Room(0), true, "Room of none")
	same(t, s.Len(), api.MaxCap, "Len")
	same(t, puts(s.Put(5, 5)), put{false, api.ErrFull}, "Put")
	for k := uint64(0); k < api.MaxCap; k += 999 {
		same(t, gets(s.Get(k*0x9e3779b97f4a7c15)), got{k, true}, "Get", k)
	}
	same(t, s.Drop(0x9e3779b97f4a7c15), true, "Drop")
	same(t, puts(s.Put(5, 5)), put{true, api.OK}, "Put behind Drop")
	s.Clear()
	same(t, s.Room(api.MaxCap), true, "Room behind Clear")
	same(t, s.Room(api.MaxCap+1), false, "Room behind Clear")
}

func TestGets(t *testing.T) {
	x := newStep(t, 100, seeds()...)
	x.gets()
	x.gets([]uint64{}...)
	x.gets(0, 1, greatest)
	for i, k := range ends() {
		x.put(k, uint64(i)+100)
	}
	x.gets()
	x.gets(3)
	x.gets(7)
	x.gets(7, 7, 7)
	x.gets(3, 7, 4, 0, 5, greatest, 7, 6)
	x.gets(3, 4, 5)
	for _, s := range x.l {
		list(t, s.Gets(greatest, 3, 0, 0), []uint64{110, 100, 100}, "Gets")
		same(t, len(s.Gets()), 0, "Gets of none")
		same(t, len(s.Gets(3, 4, 5)), 0, "Gets of keys without")
	}
}

// TestGetsMemory: what is handed in isn't changed, and what is answered is new.
func TestGetsMemory(t *testing.T) {
	x := newStep(t, 10, 1)
	x.put(5, 7)
	x.put(9, 1)
	s := x.l[0]
	room := []uint64{9, 5, 3, 9, 11, 12}
	l := room[:4]
	a, b := s.Gets(l...), s.Gets(l...)
	list(t, room, []uint64{9, 5, 3, 9, 11, 12}, "what was handed in")
	for i := range a[:cap(a)] {
		a[:cap(a)][i] = 77
	}
	for i := range room {
		room[i] = 5
	}
	list(t, b, []uint64{1, 7, 1}, "another answer")
	list(t, s.Gets(9, 5), []uint64{1, 7}, "Gets behind that")
	x.whole()
}

func TestClear(t *testing.T) {
	for _, limit := range []int{0, 1, 3, 50} {
		x := newStep(t, limit, seeds()...)
		for n := range uint64(4) {
			x.clear()
			for k := range uint64(limit) + 2 {
				x.put(k*(n+1), k+n)
			}
			x.whole()
			x.drop(0)
			x.put(greatest, n)
			x.whole()
			x.clear()
			x.clear()
			for k := range uint64(limit) + 2 {
				same(t, x.get(k*(n+1)), got{}, "Get behind Clear")
				same(t, x.drop(k*(n+1)), false, "Drop behind Clear")
			}
		}
	}
}

// TestMeter: the pool's and the table's steps are its meter's, whose methods are its own.
func TestMeter(t *testing.T) {
	s, e := slots.New(3, 10)
	same(t, e, api.OK, "New")
	same(t, s.Taken()+s.Reads()+s.Calls()+s.Peak()+s.Starts(), 0, "steps at first")
	s.Put(5, 7)
	s.Start()
	same(t, s.Taken(), 0, "Taken behind Start")
	s.Get(5)
	same(t, s.Taken(), 2, "Taken: the table is asked, and the pool")
	reads, calls := s.Reads(), s.Calls()
	s.Get(6)
	same(t, s.Calls(), calls+1, "Calls")
	same(t, s.Reads(), reads, "Reads")
	same(t, s.Taken(), 3, "Taken: no call begins an operation")
	s.Read()
	s.Call()
	same(t, s.Taken(), 5, "Taken")
	same(t, s.Peak() >= 5, true, "Peak")
	same(t, s.Starts(), 1, "Starts")
	same(t, count.Sum(s.Meter), s.Reads()+s.Calls(), "Sum")
	o, _ := slots.New(3, 10)
	same(t, o.Reads()+o.Calls(), 0, "another one's steps")
}

// TestApart: no slots have what others have.
func TestApart(t *testing.T) {
	x, y := newStep(t, 10, 1, 2), newStep(t, 10, 1, 2)
	x.put(5, 7)
	y.put(5, 8)
	y.put(9, 1)
	x.drop(9)
	x.whole()
	y.whole()
	x.clear()
	y.whole()
}

func TestScripts(t *testing.T) {
	for seed := range uint64(8) {
		limit := []int{0, 1, 5, 40, 200, 1000, 3000, api.MaxCap}[seed]
		x := newStep(t, limit, seed, seed+1, seed*0x9e3779b97f4a7c15)
		number := numbers(seed)
		for n := range 20000 {
			k := uint64(number(2*min(limit, 1000) + 2))
			if number(2) == 0 {
				k *= 0x9e3779b97f4a7c15
			}
			switch number(10) {
			case 0, 1, 2, 3, 4:
				x.put(k, uint64(number(1<<31))<<number(34))
			case 5, 6, 7:
				x.drop(k)
			case 8:
				x.get(k)
			case 9:
				x.gets(k, k+1, uint64(number(1000)), k)
			}
			if n%4000 == 0 {
				x.whole()
			}
			if number(5000) == 0 {
				x.clear()
			}
		}
		x.whole()
	}
}

// TestGrowAndShrink: by the thousands, and all gone again.
func TestGrowAndShrink(t *testing.T) {
	x := newStep(t, 5000, 1, 9)
	for n := range uint64(3) {
		for k := range uint64(5001) {
			x.put(k<<(n*20), k+n)
		}
		x.whole()
		for k := range uint64(5000) {
			x.drop((k * 7 % 5000) << (n * 20))
			if k%1000 == 0 {
				x.whole()
			}
		}
		x.whole()
	}
}

func TestNil(t *testing.T) {
	var s *slots.Slots
	for _, k := range ends() {
		same(t, puts(s.Put(k, k)), put{false, api.ErrNone}, "Put")
		same(t, gets(s.Get(k)), got{}, "Get")
		same(t, s.Drop(k), false, "Drop")
		same(t, len(s.Gets(k, k)), 0, "Gets")
	}
	for _, n := range []int{math.MinInt, -1, 0, 1, math.MaxInt} {
		same(t, s.Room(n), false, "Room", n)
	}
	same(t, s.Len(), 0, "Len")
	same(t, len(s.Gets()), 0, "Gets")
	s.Clear()
}
