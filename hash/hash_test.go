package hash_test

import (
	"cmp"
	"iter"
	"math"
	"slices"
	"testing"

	"stepstone/count"
	"stepstone/hash"
)

func same[T comparable](t *testing.T, got, want T, what string, about ...any) {
	t.Helper()
	if got != want {
		t.Fatalf("%s %v: %v, not %v", what, about, got, want)
	}
}

func list[T comparable](t *testing.T, got, want []T, what string, about ...any) {
	t.Helper()
	if !slices.Equal(got, want) {
		t.Fatalf("%s %v: %v, not %v", what, about, got, want)
	}
}

// pair is an entry.
type pair struct {
	key   hash.Key
	value uint64
}

func key(level byte, prefix uint64) hash.Key { return hash.Key{Level: level, Prefix: prefix} }

func seeds() []uint64 {
	return []uint64{0, 1, 2, 42, 255, 256, 1<<32 + 7, 1 << 63, math.MaxUint64 - 255, math.MaxUint64}
}

func collect(s iter.Seq2[hash.Key, uint64]) []pair {
	var l []pair
	for k, v := range s {
		l = append(l, pair{k, v})
	}
	return l
}

func rising(l []pair) []pair {
	r := slices.Clone(l)
	slices.SortFunc(r, func(a, b pair) int {
		return cmp.Or(cmp.Compare(a.key.Level, b.key.Level), cmp.Compare(a.key.Prefix, b.key.Prefix))
	})
	return r
}

// sized holds what is promised of Len and Size.
func sized(t *testing.T, h *hash.Table, entries int) {
	t.Helper()
	same(t, h.Len(), entries, "Len")
	n := h.Size()
	if n < 8 || n&(n-1) != 0 || n < 2*entries || entries == 0 && n != 8 {
		t.Fatalf("Size %d of %d entries", n, entries)
	}
}

// has holds all that a table tells but by Get against its entries (in any order), and that telling it changes nothing.
func has(t *testing.T, h *hash.Table, want ...pair) {
	t.Helper()
	steps, probes, size := tell(h.Meter), h.Probes(), h.Size()
	sized(t, h, len(want))
	list(t, collect(h.All()), rising(want), "All")
	same(t, tell(h.Meter), steps, "steps")
	same(t, h.Probes(), probes, "Probes")
	same(t, h.Size(), size, "Size")
}

// looked holds Probes against the places that there were ahead of the call.
func looked(t *testing.T, h *hash.Table, size int, what string, k hash.Key) {
	t.Helper()
	if n := h.Probes(); n < 1 || n > size {
		t.Fatalf("%s %v: Probes %d of %d places", what, k, n, size)
	}
}

func get(t *testing.T, h *hash.Table, k hash.Key, want uint64) {
	t.Helper()
	size := h.Size()
	if v, ok := h.Get(k); v != want || !ok {
		t.Fatalf("Get %v: %v, %v, not %v", k, v, ok, want)
	}
	looked(t, h, size, "Get", k)
}

func getNone(t *testing.T, h *hash.Table, k hash.Key) {
	t.Helper()
	size := h.Size()
	if v, ok := h.Get(k); v != 0 || ok {
		t.Fatalf("Get %v: %v, %v", k, v, ok)
	}
	looked(t, h, size, "Get", k)
}

func put(t *testing.T, h *hash.Table, k hash.Key, v uint64, want bool) {
	t.Helper()
	size := h.Size()
	same(t, h.Put(k, v), want, "Put", k, v)
	looked(t, h, size, "Put", k)
}

func drop(t *testing.T, h *hash.Table, k hash.Key, want bool) {
	t.Helper()
	size := h.Size()
	same(t, h.Drop(k), want, "Drop", k)
	looked(t, h, size, "Drop", k)
}

// steps is what a meter tells: Taken, Reads, Calls, Peak, Starts.
type steps [5]int

func tell(m *count.Meter) steps {
	return steps{m.Taken(), m.Reads(), m.Calls(), m.Peak(), m.Starts()}
}

// mixed are n different keys of mixed levels and prefixes: close together, far apart, as many levels of one prefix, the greatest.
func mixed(n int) []hash.Key {
	var l []hash.Key
	for i := 0; len(l) < n; i++ {
		x := uint64(i)
		l = append(l, key(3, x), key(byte(i), 3<<44+x>>8), key(64, math.MaxUint64-x), key(65, x<<40+x), key(66, x<<48))
	}
	return l[:n]
}

// pairs are entries of the keys, each with a value of its own.
func pairs(l []hash.Key) []pair {
	var r []pair
	for i, k := range l {
		r = append(r, pair{k, uint64(i)*3 + 1})
	}
	return r
}

func filled(t *testing.T, seed uint64, l []pair) *hash.Table {
	t.Helper()
	h := hash.New(nil, seed)
	for n, x := range l {
		put(t, h, x.key, x.value, true)
		sized(t, h, n+1)
	}
	return h
}

// numbers answers a function that tells numbers below n, on and on, by the seed.
func numbers(seed uint64) func(n int) int {
	return func(n int) int {
		seed = seed*6364136223846793005 + 1442695040888963407
		return int(seed >> 33 % uint64(n))
	}
}

func shuffled[T any](l []T, seed uint64) []T {
	number := numbers(seed)
	r := slices.Clone(l)
	for i := range r {
		j := i + number(len(r)-i)
		r[i], r[j] = r[j], r[i]
	}
	return r
}

// P5.1

func TestNew(t *testing.T) {
	for _, seed := range seeds() {
		for _, m := range []*count.Meter{nil, count.New()} {
			h := hash.New(m, seed)
			same(t, h == nil || h.Meter == nil, false, "New", seed)
			has(t, h)
			same(t, h.Size(), 8, "Size", seed)
			same(t, h.Probes(), 0, "Probes", seed)
			same(t, tell(h.Meter), steps{}, "steps", seed)
			for _, k := range mixed(40) {
				getNone(t, h, k)
				drop(t, h, k, false)
			}
			getNone(t, h, hash.Key{})
			drop(t, h, hash.Key{}, false)
			has(t, h)
		}
	}
}

func TestPutGetDrop(t *testing.T) {
	for _, seed := range seeds() {
		h := hash.New(nil, seed)
		put(t, h, key(3, 5), 7, true)
		has(t, h, pair{key(3, 5), 7})
		get(t, h, key(3, 5), 7)
		for _, k := range []hash.Key{key(4, 5), key(2, 5), key(3, 4), key(3, 6), key(5, 3), key(0, 5), key(3, 0), {}, key(3, 5+1<<32), key(3, 5+1<<63)} {
			getNone(t, h, k)
			drop(t, h, k, false)
			has(t, h, pair{key(3, 5), 7})
		}
		put(t, h, key(4, 5), 9, true)
		put(t, h, key(3, 6), 7, true)
		has(t, h, pair{key(3, 5), 7}, pair{key(4, 5), 9}, pair{key(3, 6), 7})
		drop(t, h, key(3, 5), true)
		has(t, h, pair{key(4, 5), 9}, pair{key(3, 6), 7})
		getNone(t, h, key(3, 5))
		drop(t, h, key(3, 5), false)
		get(t, h, key(4, 5), 9)
		get(t, h, key(3, 6), 7)
		put(t, h, key(3, 5), 1, true)
		get(t, h, key(3, 5), 1)
		drop(t, h, key(4, 5), true)
		drop(t, h, key(3, 6), true)
		drop(t, h, key(3, 5), true)
		has(t, h)
	}
}

func TestPutOfWhatIsThere(t *testing.T) {
	for _, n := range []int{1, 4, 5, 8, 100, 128} {
		l := pairs(mixed(n))
		h := filled(t, 42, l)
		size := h.Size()
		for i, x := range l {
			put(t, h, x.key, x.value, false)
			l[i].value = x.value * 1000
			put(t, h, x.key, x.value*1000, false)
			get(t, h, x.key, x.value*1000)
			same(t, h.Size(), size, "Size behind Put of what was there", n)
		}
		has(t, h, l...)
	}
}

func TestOnePrefixOfManyLevels(t *testing.T) {
	for _, prefix := range []uint64{0, 5, 1 << 63, math.MaxUint64} {
		h := hash.New(nil, prefix)
		var want []pair
		for level := range 256 {
			getNone(t, h, key(byte(level), prefix))
			put(t, h, key(byte(level), prefix), uint64(level), true)
			want = append(want, pair{key(byte(level), prefix), uint64(level)})
		}
		has(t, h, want...)
		for level := 0; level < 256; level += 2 {
			drop(t, h, key(byte(level), prefix), true)
		}
		for level := range 256 {
			if level%2 == 0 {
				getNone(t, h, key(byte(level), prefix))
			} else {
				get(t, h, key(byte(level), prefix), uint64(level))
			}
		}
	}
}

func TestTheLeastAndTheGreatest(t *testing.T) {
	l := []pair{
		{key(0, 0), 0}, {key(0, 1), math.MaxUint64}, {key(0, math.MaxUint64), 1},
		{key(1, 0), 0}, {key(127, math.MaxInt64), math.MaxInt64}, {key(128, 1<<63), 1 << 63},
		{key(255, 0), math.MaxUint64}, {key(255, math.MaxUint64), math.MaxUint64},
	}
	for _, seed := range seeds() {
		for n := range len(l) + 1 {
			h := filled(t, seed, l[:n])
			has(t, h, l[:n]...)
			for i, x := range l {
				if i < n {
					get(t, h, x.key, x.value)
				} else {
					getNone(t, h, x.key)
				}
			}
		}
		h := filled(t, seed, l)
		for n, x := range l {
			drop(t, h, x.key, true)
			drop(t, h, x.key, false)
			has(t, h, l[n+1:]...)
		}
	}
}

func TestSizes(t *testing.T) {
	for _, seed := range seeds() {
		for _, n := range []int{1, 2, 3, 4, 5, 8, 9, 16, 17, 64, 65, 2000} {
			l := pairs(mixed(n))
			h := filled(t, seed, l)
			size := h.Size()
			put(t, h, l[0].key, 5, false)
			drop(t, h, key(200, 1<<60), false)
			same(t, h.Size(), size, "Size behind what changes no number", n)
			for i, x := range l {
				drop(t, h, x.key, true)
				sized(t, h, n-i-1)
			}
			same(t, h.Size(), 8, "Size behind", n)
		}
	}
}

// TestNoMoreIsKept: places go as the entries go, not only with the last one.
func TestNoMoreIsKept(t *testing.T) {
	l := pairs(mixed(3000))
	h := filled(t, 42, l)
	for n, x := range l {
		drop(t, h, x.key, true)
		if left := len(l) - n - 1; h.Size() > 8*max(left, 1) {
			t.Fatalf("Size %d of %d entries", h.Size(), left)
		}
	}
}

// TestSizeInTurn: what goes and comes in turn doesn't move all each time.
func TestSizeInTurn(t *testing.T) {
	l := pairs(mixed(600))
	for n := 1; n < len(l); n++ {
		h := filled(t, 42, l[:n])
		var sizes []int
		for range 3 {
			put(t, h, l[n].key, 0, true)
			sizes = append(sizes, h.Size())
			drop(t, h, l[n].key, true)
			sizes = append(sizes, h.Size())
		}
		if slices.Max(sizes) != slices.Min(sizes) {
			t.Fatalf("%d entries: sizes %v", n, sizes)
		}
	}
}

func TestProbes(t *testing.T) {
	for seed := range uint64(50) {
		h := hash.New(nil, seed)
		same(t, h.Probes(), 0, "Probes at first")
		for n, x := range pairs(mixed(40)) {
			put(t, h, x.key, x.value, true)
			has(t, h, pairs(mixed(n+1))...)
			get(t, h, x.key, x.value)
			probes := h.Probes()
			h.Len()
			h.Size()
			collect(h.All())
			same(t, h.Probes(), probes, "Probes, asked again")
			getNone(t, h, key(200, uint64(n)))
			get(t, h, x.key, x.value)
			same(t, h.Probes(), probes, "Probes of the same Get")
			put(t, h, x.key, x.value, false)
			drop(t, h, key(200, uint64(n)), false)
		}
		h.Clear()
		same(t, h.Probes(), 0, "Probes behind Clear")
		h.Clear()
		getNone(t, h, key(1, 1))
		h.Clear()
		same(t, h.Probes(), 0, "Probes behind Clear")
	}
}

// TestProbesCount: entries share their first places, so that some calls must look at more than one; and most look at few.
func TestProbesCount(t *testing.T) {
	keys := map[string]func(i uint64) hash.Key{
		"one behind the other": func(i uint64) hash.Key { return key(64, i) },
		"the upper bits":       func(i uint64) hash.Key { return key(64, i<<48) },
		"far apart":            func(i uint64) hash.Key { return key(9, i*0x9e3779b97f4a7c15) },
		"all levels":           func(i uint64) hash.Key { return key(byte(i), i>>8) },
		"falling":              func(i uint64) hash.Key { return key(byte(i%2), math.MaxUint64-i*i) },
	}
	for name, of := range keys {
		for _, seed := range seeds() {
			h := hash.New(nil, seed)
			n := uint64(4096)
			for i := range n {
				put(t, h, of(i), i, true)
			}
			var gets, nones, drops []int
			for i := range n {
				get(t, h, of(i), i)
				gets = append(gets, h.Probes())
				getNone(t, h, of(n+i))
				nones = append(nones, h.Probes())
			}
			for i := range n {
				drop(t, h, of(i), true)
				drops = append(drops, h.Probes())
			}
			for _, l := range [][]int{gets, nones, drops} {
				if sum := total(l); slices.Max(l) == 1 || sum > 4*int(n) {
					t.Fatalf("%s, seed %d: %d in all, at most %d", name, seed, sum, slices.Max(l))
				}
			}
		}
	}
}

func total(l []int) int {
	sum := 0
	for _, n := range l {
		sum += n
	}
	return sum
}

func TestAll(t *testing.T) {
	for _, seed := range seeds() {
		h := hash.New(nil, seed)
		all := h.All()
		list(t, collect(all), nil, "All of none")
		want := []pair{{key(0, 9), 1}, {key(1, 0), 7}, {key(1, 2), 6}, {key(1, 256), 0}, {key(2, 1), 5}, {key(128, 0), 4}, {key(128, 1<<63), 3}, {key(128, math.MaxUint64), 2}, {key(255, 3), 9}}
		for _, x := range shuffled(want, seed) {
			put(t, h, x.key, x.value, true)
		}
		for range 2 {
			list(t, collect(all), want, "All, gone through again")
			list(t, collect(h.All()), want, "All")
		}
		for n := 1; n <= len(want); n++ {
			var got []pair
			all(func(k hash.Key, v uint64) bool {
				got = append(got, pair{k, v})
				return len(got) < n
			})
			list(t, got, want[:n], "All, stopped behind", n)
		}
		for range 2 {
			first, second := collect2(all)
			list(t, first, want, "All, gone through within itself")
			list(t, second, want, "All, gone through within itself")
		}
		drop(t, h, want[0].key, true)
		list(t, collect(all), want[1:], "All behind Drop")
		h.Clear()
		list(t, collect(all), nil, "All behind Clear")
	}
}

// collect2 goes through s while it goes through s.
func collect2(s iter.Seq2[hash.Key, uint64]) (outer, inner []pair) {
	for k, v := range s {
		outer = append(outer, pair{k, v})
		inner = collect(s)
	}
	return outer, inner
}

// TestDropInAllOrders: in a table of 8 or 16 places many entries share a home, also at its end.
func TestDropInAllOrders(t *testing.T) {
	for n := 1; n <= 5; n++ {
		for seed := range uint64(30) {
			l := pairs(mixed(n + 20)[20:])
			orders(l, func(order []pair) {
				h := filled(t, seed, l)
				for i, x := range order {
					drop(t, h, x.key, true)
					getNone(t, h, x.key)
					for _, y := range order[i+1:] {
						get(t, h, y.key, y.value)
					}
				}
				has(t, h)
			})
		}
	}
}

// orders hands on each order of l.
func orders(l []pair, f func([]pair)) {
	l = slices.Clone(l)
	var from func(n int)
	from = func(n int) {
		if n == len(l) {
			f(l)
		}
		for i := n; i < len(l); i++ {
			l[n], l[i] = l[i], l[n]
			from(n + 1)
			l[n], l[i] = l[i], l[n]
		}
	}
	from(0)
}

func TestDropOfMany(t *testing.T) {
	l := pairs(mixed(260))
	falling := slices.Clone(l)
	slices.Reverse(falling)
	for _, seed := range seeds() {
		for _, order := range [][]pair{l, falling, rising(l), shuffled(l, seed), shuffled(l, seed+1)} {
			h := filled(t, seed, l)
			for i, x := range order {
				drop(t, h, x.key, true)
				sized(t, h, len(order)-i-1)
				getNone(t, h, x.key)
				for _, y := range order[i+1:] {
					get(t, h, y.key, y.value)
				}
			}
			has(t, h)
		}
	}
}

func TestVeryMany(t *testing.T) {
	const n = 1 << 17
	h := hash.New(nil, 42)
	for i := range uint64(n) {
		put(t, h, key(byte(i%65), i), i, true)
	}
	sized(t, h, n)
	order := uint64(77777) // odd: each number below n comes up once
	for i := range uint64(n) {
		k := i * order % n
		get(t, h, key(byte(k%65), k), k)
		drop(t, h, key(byte(k%65), k), true)
		last := (n - 1) * order % n
		if i < n-1 {
			get(t, h, key(byte(last%65), last), last)
		}
	}
	has(t, h)
}

func TestClear(t *testing.T) {
	for _, seed := range seeds() {
		h := hash.New(nil, seed)
		h.Clear()
		has(t, h)
		for _, n := range []int{1, 5, 300, 4} {
			l := pairs(mixed(n))
			for _, x := range l {
				put(t, h, x.key, x.value, true)
			}
			drop(t, h, l[n/2].key, true)
			calls := h.Calls()
			h.Clear()
			same(t, h.Calls(), calls, "Calls behind Clear")
			same(t, h.Probes(), 0, "Probes behind Clear")
			has(t, h)
			for _, x := range l {
				getNone(t, h, x.key)
				drop(t, h, x.key, false)
			}
			put(t, h, l[0].key, 99, true)
			has(t, h, pair{l[0].key, 99})
			h.Clear()
			h.Clear()
			has(t, h)
		}
	}
}

// TestClearKeepsTheSeed: what is told behind Clear is told of a new table, Probes too.
func TestClearKeepsTheSeed(t *testing.T) {
	for _, seed := range seeds() {
		h := filled(t, seed, pairs(mixed(50)))
		h.Clear()
		o := hash.New(nil, seed)
		for _, x := range pairs(mixed(90)) {
			put(t, h, x.key, x.value, true)
			put(t, o, x.key, x.value, true)
			same(t, h.Probes(), o.Probes(), "Probes of Put", x.key)
			same(t, h.Size(), o.Size(), "Size")
		}
	}
}

func TestMeterThatIsHandedIn(t *testing.T) {
	m := count.New()
	m.Read()
	m.Start()
	h := hash.New(m, 1)
	same(t, h.Meter, m, "the meter")
	same(t, tell(m), steps{0, 1, 0, 1, 1}, "steps behind New")
	put(t, h, key(3, 5), 7, true)
	get(t, h, key(3, 5), 7)
	getNone(t, h, key(4, 5))
	m.Call()
	same(t, tell(m), steps{3, 1, 3, 3, 1}, "steps")
	same(t, steps{h.Taken(), h.Reads(), h.Calls(), h.Peak(), h.Starts()}, tell(m), "the table's methods")
	h.Start()
	h.Call()
	h.Read()
	same(t, tell(m), steps{2, 2, 4, 3, 2}, "steps by the table's methods")
	// One meter may be of two tables.
	o := hash.New(m, 2)
	getNone(t, o, key(3, 5))
	get(t, h, key(3, 5), 7)
	same(t, tell(m), steps{4, 2, 6, 4, 2}, "steps of two tables")
	same(t, o.Taken(), 4, "Taken")
	same(t, count.Sum(h.Meter), 8, "Sum")
}

func TestMetersOfTheirOwn(t *testing.T) {
	h, o := hash.New(nil, 1), hash.New(nil, 1)
	getNone(t, h, key(1, 1))
	getNone(t, h, key(1, 2))
	o.Start()
	getNone(t, o, key(1, 1))
	same(t, tell(h.Meter), steps{2, 0, 2, 2, 0}, "steps of the first")
	same(t, tell(o.Meter), steps{1, 0, 1, 1, 1}, "steps of the second")
}

func TestOnlyGetIsAStep(t *testing.T) {
	m := count.New()
	m.Start()
	m.Read()
	h := hash.New(m, 7)
	calls := 0
	for range 2 {
		l := pairs(mixed(70))
		for n, x := range l {
			put(t, h, x.key, x.value, true)
			put(t, h, x.key, x.value, false)
			has(t, h, l[:n+1]...)
			same(t, tell(m), steps{calls + 1, 1, calls, calls + 1, 1}, "steps of Put, Len, Size, Probes, All")
		}
		for _, x := range l[:9] {
			get(t, h, x.key, x.value)
			getNone(t, h, key(200, x.key.Prefix))
			calls += 2
			same(t, tell(m), steps{calls + 1, 1, calls, calls + 1, 1}, "steps of Get")
		}
		for _, x := range l[:40] {
			drop(t, h, x.key, true)
			drop(t, h, x.key, false)
		}
		h.Clear()
		same(t, tell(m), steps{calls + 1, 1, calls, calls + 1, 1}, "steps of Drop, Clear")
	}
}

func TestTablesStandApart(t *testing.T) {
	h, o := hash.New(nil, 42), hash.New(nil, 42)
	put(t, h, key(1, 1), 5, true)
	put(t, o, key(1, 2), 6, true)
	has(t, h, pair{key(1, 1), 5})
	has(t, o, pair{key(1, 2), 6})
	put(t, o, key(1, 1), 7, true)
	get(t, h, key(1, 1), 5)
	drop(t, o, key(1, 1), true)
	get(t, h, key(1, 1), 5)
	o.Clear()
	has(t, h, pair{key(1, 1), 5})
	h.Clear()
	same(t, o.Probes(), 0, "Probes")
	put(t, o, key(1, 2), 6, true)
	has(t, h)
	same(t, h.Probes(), 0, "Probes of the first")
}

func TestExample(t *testing.T) {
	h := hash.New(nil, 42)
	put(t, h, key(3, 5), 7, true)
	get(t, h, key(3, 5), 7)
	getNone(t, h, key(4, 5))
}

// P5.2

func TestNil(t *testing.T) {
	var h *hash.Table
	for range 2 {
		for _, k := range append(mixed(9), hash.Key{}, key(255, math.MaxUint64)) {
			same(t, h.Put(k, 7) || h.Drop(k), false, "nil", k)
			v, ok := h.Get(k)
			same(t, ok, false, "nil Get", k)
			same(t, v, 0, "nil Get", k)
		}
		same(t, h.Len(), 0, "nil Len")
		same(t, h.Size(), 0, "nil Size")
		same(t, h.Probes(), 0, "nil Probes")
		list(t, collect(h.All()), nil, "nil All")
		h.Clear()
	}
}

// TestTheSeedIsOfProbes: with some seed some call looks at other places; else the seed would be for nothing.
func TestTheSeedIsOfProbes(t *testing.T) {
	looks := map[int]int{}
	for seed := range uint64(40) {
		h := hash.New(nil, seed)
		sum := 0
		for _, x := range pairs(mixed(100)) {
			put(t, h, x.key, x.value, true)
			sum += h.Probes()
		}
		looks[sum]++
	}
	if len(looks) == 1 {
		t.Fatal(looks)
	}
}

// model is a table as the document's words tell it: a plain list.
type model []pair

func (m *model) at(k hash.Key) int {
	return slices.IndexFunc(*m, func(x pair) bool { return x.key == k })
}

func (m *model) get(k hash.Key) (uint64, bool) {
	if i := m.at(k); i >= 0 {
		return (*m)[i].value, true
	}
	return 0, false
}

func (m *model) put(k hash.Key, v uint64) bool {
	i := m.at(k)
	if i >= 0 {
		(*m)[i].value = v
		return false
	}
	*m = append(*m, pair{k, v})
	return true
}

func (m *model) drop(k hash.Key) bool {
	i := m.at(k)
	if i >= 0 {
		*m = slices.Delete(*m, i, i+1)
	}
	return i >= 0
}

func TestScripts(t *testing.T) {
	for n, keys := range []int{1, 3, 8, 20, 100, 400} {
		script(t, keys, uint64(n))
	}
}

// script tells tables of many seeds the same things, and holds each one against a model, and their sizes against each other.
func script(t *testing.T, keys int, seed uint64) {
	t.Helper()
	number := numbers(seed)
	var tables []*hash.Table
	for _, s := range seeds() {
		tables = append(tables, hash.New(nil, s))
	}
	m, calls := &model{}, 0
	l := mixed(keys)
	for v := range uint64(4000) {
		k, do := l[number(keys)], pick(number, v/500%2 == 0)
		value, there := m.get(k)
		switch do {
		case 'p':
			m.put(k, v)
		case 'd':
			m.drop(k)
		case 'g':
			calls++
		case 'c':
			*m = nil
		}
		for _, h := range tables {
			switch {
			case do == 'p':
				put(t, h, k, v, !there)
			case do == 'd':
				drop(t, h, k, there)
			case do == 'g' && there:
				get(t, h, k, value)
			case do == 'g':
				getNone(t, h, k)
			case do == 'c':
				h.Clear()
			}
			sized(t, h, len(*m))
			same(t, h.Size(), tables[0].Size(), "Size of any two seeds")
			same(t, tell(h.Meter), steps{calls, 0, calls, calls, 0}, "steps")
			if v%16 == 0 {
				has(t, h, *m...)
			}
		}
	}
}

// pick tells which call is next: put, drop, get or (seldom) clear; whether there are more of put or of drop makes tables grow and fall.
func pick(number func(int) int, grow bool) rune {
	do := number(10)
	switch {
	case do == 0 && number(60) == 0:
		return 'c'
	case do < 4:
		return 'g'
	case do < 9 == grow:
		return 'p'
	}
	return 'd'
}
