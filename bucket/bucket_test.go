package bucket_test

import (
	"math"
	"slices"
	"testing"

	"stepstone/bucket"
)

const greatest = math.MaxUint64

// same calls Helper where it fails alone, as others below that are called very often: it is slow.
func same[T comparable](t *testing.T, got, want T, what string, about ...any) {
	if got != want {
		t.Helper()
		t.Fatalf("%s %v: %v, not %v", what, about, got, want)
	}
}

// list holds lists against each other; long ones aren't told.
func list(t *testing.T, got, want []uint64, what string, about ...any) {
	if !slices.Equal(got, want) {
		t.Helper()
		t.Fatalf("%s %v: %v (%d), not %v (%d)", what, about, got[:min(len(got), 40)], len(got), want[:min(len(want), 40)], len(want))
	}
}

// found is what a call answers that may find nothing.
type found struct {
	key uint64
	ok  bool
}

func find(k uint64, ok bool) found { return found{k, ok} }

// numbers answers a function that tells numbers below n, on and on, by the seed.
func numbers(seed uint64) func(n int) int {
	return func(n int) int {
		seed = seed*6364136223846793005 + 1442695040888963407
		return int(seed >> 33 % uint64(n))
	}
}

func shuffled(l []uint64, seed uint64) []uint64 {
	number, r := numbers(seed), slices.Clone(l)
	for i := range r {
		j := i + number(len(r)-i)
		r[i], r[j] = r[j], r[i]
	}
	return r
}

func reversed(l []uint64) []uint64 {
	r := slices.Clone(l)
	slices.Reverse(r)
	return r
}

// spread is n keys that are by apart, from from on.
func spread(from uint64, n int, by uint64) []uint64 {
	var l []uint64
	for i := range uint64(n) {
		l = append(l, from+i*by)
	}
	return l
}

// plain is what the keys of l are, each once, rising: without what the package does.
func plain(l ...[]uint64) []uint64 {
	have := map[uint64]int{}
	for _, x := range l {
		for _, k := range x {
			have[k]++
		}
	}
	var r []uint64
	for k := range have {
		r = append(r, k)
	}
	slices.Sort(r)
	return r
}

func pick(l []uint64, wanted func(uint64) bool) []uint64 {
	var r []uint64
	for _, k := range l {
		if wanted(k) {
			r = append(r, k)
		}
	}
	return r
}

// first and last are what is found at an end.
func first(l []uint64) found {
	if len(l) == 0 {
		return found{}
	}
	return found{l[0], true}
}

func last(l []uint64) found { return first(reversed(l)) }

// samples are buckets; some have more keys than Most.
func samples() [][]uint64 {
	return [][]uint64{
		nil, {}, {0}, {1}, {greatest}, {0, 1}, {0, greatest}, {greatest - 1, greatest}, {5}, {2, 5, 9}, {3, 5, 7}, {0, 2, 5, greatest},
		{0, 1 << 31, 1 << 32, 1 << 33, 1 << 63, greatest}, {1<<63 - 1, 1 << 63}, {1 << 16, 1<<16 + 1, 1<<32 - 1, 1 << 32},
		spread(9, 63, 1), spread(9, 64, 3), spread(0, 65, 2), spread(1, 127, 1), spread(0, 128, 1), spread(greatest-127, 128, 1),
		spread(0, 129, 7), spread(3, 128, 1<<57), spread(100, 500, 2), spread(1, 300, 1<<55),
	}
}

// keys are those about which l is asked: the ends, and those about its own.
func keys(l []uint64) []uint64 {
	r := []uint64{0, 1, 2, 1<<16 + 1, 1<<32 - 1, 1 << 32, 1<<63 - 1, 1 << 63, greatest - 1, greatest}
	for _, k := range l {
		r = append(r, k-1, k, k+1)
	}
	return r
}

// P15.1

func TestMost(t *testing.T) { same(t, bucket.Most, 128, "Most") }

func TestOf(t *testing.T) {
	list(t, bucket.Of(), nil, "Of none")
	list(t, bucket.Of(nil...), nil, "Of nil")
	list(t, bucket.Of([]uint64{}...), nil, "Of an empty list")
	list(t, bucket.Of(9, 1, 5, 1), []uint64{1, 5, 9}, "Of 9, 1, 5, 1")
	list(t, bucket.Of(7, 7, 7, 7), []uint64{7}, "Of 7 four times")
	list(t, bucket.Of(0, 0), []uint64{0}, "Of 0 twice")
	list(t, bucket.Of(greatest, 0, greatest, 0), []uint64{0, greatest}, "Of the ends")
	list(t, bucket.Of(9, 8, 7, 1, 0), []uint64{0, 1, 7, 8, 9}, "Of falling ones")
	list(t, bucket.Of(1<<63, 1, 1<<63-1, 1<<32), []uint64{1, 1 << 32, 1<<63 - 1, 1 << 63}, "Of great ones")
	for i, l := range samples() {
		list(t, bucket.Of(l...), l, "Of rising ones", i)
		list(t, bucket.Of(reversed(l)...), l, "Of falling ones", i)
		for seed := range uint64(3) {
			list(t, bucket.Of(shuffled(l, seed)...), l, "Of mixed ones", i)
			list(t, bucket.Of(shuffled(slices.Concat(l, l, l[:len(l)/2]), seed)...), l, "Of mixed ones, twice", i)
		}
	}
}

func TestIs(t *testing.T) {
	for i, l := range samples() {
		same(t, bucket.Is(l), true, "Is", i)
		for j := 1; j < len(l); j++ {
			// Two alike, and two that fall, behind one another at any place.
			twice := slices.Insert(slices.Clone(l), j, l[j])
			same(t, bucket.Is(twice), false, "Is, twice", i, j)
			fallen := slices.Clone(l)
			fallen[j-1], fallen[j] = fallen[j], fallen[j-1]
			same(t, bucket.Is(fallen), false, "Is, falling", i, j)
		}
		same(t, bucket.Is(reversed(l)), len(l) < 2, "Is of falling ones", i)
	}
	for _, l := range [][]uint64{{1, 1}, {0, 0}, {greatest, greatest}, {greatest, 0}, {1, 0}, {2, 1, 3}, {1, 3, 2}, {1, 2, 3, 3}, {0, greatest, greatest}, {0, 1, 0}, {1 << 32, 5}, {1 << 63, 1<<63 - 1}} {
		same(t, bucket.Is(l), false, "Is", l)
	}
}

func TestHasNextPrev(t *testing.T) {
	for i, l := range samples() {
		for _, k := range keys(l) {
			same(t, bucket.Has(l, k), slices.Contains(l, k), "Has", i, k)
			same(t, find(bucket.Next(l, k)), first(pick(l, func(n uint64) bool { return n >= k })), "Next", i, k)
			same(t, find(bucket.Prev(l, k)), last(pick(l, func(n uint64) bool { return n <= k })), "Prev", i, k)
		}
	}
}

// TestBesideTheKeys is written by hand.
func TestBesideTheKeys(t *testing.T) {
	l := []uint64{5, 9, 1 << 40}
	for _, c := range []struct {
		key        uint64
		has        bool
		next, prev found
	}{
		{0, false, found{5, true}, found{}},
		{4, false, found{5, true}, found{}},
		{5, true, found{5, true}, found{5, true}},
		{6, false, found{9, true}, found{5, true}},
		{9, true, found{9, true}, found{9, true}},
		{10, false, found{1 << 40, true}, found{9, true}},
		{1 << 40, true, found{1 << 40, true}, found{1 << 40, true}},
		{1<<40 + 1, false, found{}, found{1 << 40, true}},
		{greatest, false, found{}, found{1 << 40, true}},
	} {
		same(t, bucket.Has(l, c.key), c.has, "Has", c.key)
		same(t, find(bucket.Next(l, c.key)), c.next, "Next", c.key)
		same(t, find(bucket.Prev(l, c.key)), c.prev, "Prev", c.key)
		for _, none := range [][]uint64{nil, {}, l[:0]} {
			same(t, bucket.Has(none, c.key), false, "Has of none", c.key)
			same(t, find(bucket.Next(none, c.key)), found{}, "Next of none", c.key)
			same(t, find(bucket.Prev(none, c.key)), found{}, "Prev of none", c.key)
		}
	}
}

func TestAddDrop(t *testing.T) {
	for i, l := range samples() {
		for _, k := range keys(l) {
			there := slices.Contains(l, k)
			without := pick(l, func(n uint64) bool { return n != k })
			with := plain(l, []uint64{k})
			got, changed := bucket.Add(l, k)
			list(t, got, with, "Add", i, k)
			same(t, changed, !there, "Add", i, k)
			got, changed = bucket.Add(got, k)
			list(t, got, with, "Add again", i, k)
			same(t, changed, false, "Add again", i, k)
			got, changed = bucket.Drop(l, k)
			list(t, got, without, "Drop", i, k)
			same(t, changed, there, "Drop", i, k)
			got, changed = bucket.Drop(got, k)
			list(t, got, without, "Drop again", i, k)
			same(t, changed, false, "Drop again", i, k)
		}
	}
}

// TestPlacesOfAddDrop is written by hand: at the front, in the middle, at the end.
func TestPlacesOfAddDrop(t *testing.T) {
	l := []uint64{3, 5, 7}
	for _, c := range []struct {
		key     uint64
		with    []uint64
		added   bool
		without []uint64
		dropped bool
	}{
		{0, []uint64{0, 3, 5, 7}, true, l, false},
		{2, []uint64{2, 3, 5, 7}, true, l, false},
		{3, l, false, []uint64{5, 7}, true},
		{4, []uint64{3, 4, 5, 7}, true, l, false},
		{5, l, false, []uint64{3, 7}, true},
		{6, []uint64{3, 5, 6, 7}, true, l, false},
		{7, l, false, []uint64{3, 5}, true},
		{8, []uint64{3, 5, 7, 8}, true, l, false},
		{greatest, []uint64{3, 5, 7, greatest}, true, l, false},
	} {
		got, changed := bucket.Add(l, c.key)
		list(t, got, c.with, "Add", c.key)
		same(t, changed, c.added, "Add", c.key)
		got, changed = bucket.Drop(l, c.key)
		list(t, got, c.without, "Drop", c.key)
		same(t, changed, c.dropped, "Drop", c.key)
	}
	for _, none := range [][]uint64{nil, {}} {
		got, changed := bucket.Add(none, 5)
		list(t, got, []uint64{5}, "Add to none")
		same(t, changed, true, "Add to none")
		got, changed = bucket.Drop(none, 5)
		list(t, got, nil, "Drop from none")
		same(t, changed, false, "Drop from none")
	}
}

// TestSplit: the first half is the greater one.
func TestSplit(t *testing.T) {
	for n, want := range map[int]int{0: 0, 1: 1, 2: 1, 3: 2, 4: 2, 5: 3, bucket.Most - 1: 64, bucket.Most: 64, bucket.Most + 1: 65, bucket.Most + 2: 65, 1000: 500, 1001: 501} {
		for _, by := range []uint64{1, 3, 1 << 53} {
			l := spread(0, n, by)
			a, b := bucket.Split(l)
			list(t, a, l[:want], "the first half of", n)
			list(t, b, l[want:], "the second half of", n)
		}
	}
	for i, l := range samples() {
		a, b := bucket.Split(l)
		list(t, slices.Concat(a, b), l, "both halves", i)
		same(t, len(a)-len(b), len(l)%2, "how much greater the first half is", i)
	}
}

func TestMerge(t *testing.T) {
	for _, l := range [][][]uint64{nil, {}, {nil}, {{}}, {nil, nil}, {nil, {}, nil}} {
		list(t, bucket.Merge(l...), nil, "Merge of none", l)
	}
	list(t, bucket.Merge([]uint64{5, 9}, []uint64{1, 5, 7}), []uint64{1, 5, 7, 9}, "Merge of two that share one")
	list(t, bucket.Merge([]uint64{0, greatest}, []uint64{0, greatest}), []uint64{0, greatest}, "Merge of two that share all")
	list(t, bucket.Merge([]uint64{9}, []uint64{1, 5}), []uint64{1, 5, 9}, "Merge of two, the one behind first")
	for i, a := range samples() {
		list(t, bucket.Merge(a), a, "Merge of one", i)
		list(t, bucket.Merge(a, a, a), a, "Merge of one three times", i)
		first, second := bucket.Split(a)
		list(t, bucket.Merge(first, second), a, "Merge of the halves", i)
		list(t, bucket.Merge(second, nil, first), a, "Merge of the halves, the second first", i)
		for j, b := range samples() {
			list(t, bucket.Merge(a, b), plain(a, b), "Merge", i, j)
			list(t, bucket.Merge(a, b, a), plain(a, b), "Merge", i, j)
		}
	}
}

func TestMergeOfMany(t *testing.T) {
	number := numbers(9)
	l := samples()
	for range 60 {
		var some [][]uint64
		for range 1 + number(9) {
			some = append(some, l[number(len(l))])
		}
		list(t, bucket.Merge(some...), plain(some...), "Merge of some")
	}
	list(t, bucket.Merge(l...), plain(l...), "Merge of all samples")
	every := spread(0, 5000, 3)
	var ones [][]uint64
	for _, k := range shuffled(every, 5) {
		ones = append(ones, []uint64{k}, []uint64{k})
	}
	list(t, bucket.Merge(ones...), every, "Merge of each key by itself")
}

// TestScript adds and drops on and on, and holds what is answered against a plain table.
func TestScript(t *testing.T) {
	for seed := range uint64(6) {
		number := numbers(seed)
		var l []uint64
		is := map[uint64]int{}
		for range 1500 {
			k := uint64(number(150))
			if number(2) == 0 {
				k = -k - 1
			}
			_, there := is[k]
			var changed bool
			if number(5) < 3 {
				l, changed = bucket.Add(l, k)
				same(t, changed, !there, "Add", k)
				is[k] = 1
			} else {
				l, changed = bucket.Drop(l, k)
				same(t, changed, there, "Drop", k)
				delete(is, k)
			}
			_, there = is[k]
			same(t, bucket.Has(l, k), there, "Has", k)
			same(t, bucket.Is(l), true, "Is", k)
			same(t, len(l), len(is), "how many", k)
		}
		for k := range is {
			same(t, bucket.Has(l, k), true, "Has behind a script", k)
		}
	}
}

// The rule on memory.

// calls are all calls that answer a list, of two lists, and of keys that they have, and haven't.
func calls() map[string]func(a, b []uint64) []uint64 {
	one := func(l []uint64, _ bool) []uint64 { return l }
	first := func(a, _ []uint64) []uint64 { return a }
	second := func(_, b []uint64) []uint64 { return b }
	return map[string]func(a, b []uint64) []uint64{
		"Of":                func(a, b []uint64) []uint64 { return bucket.Of(a...) },
		"Add 0":             func(a, b []uint64) []uint64 { return one(bucket.Add(a, 0)) },
		"Add 4":             func(a, b []uint64) []uint64 { return one(bucket.Add(a, 4)) },
		"Add 5":             func(a, b []uint64) []uint64 { return one(bucket.Add(a, 5)) },
		"Add the greatest":  func(a, b []uint64) []uint64 { return one(bucket.Add(a, greatest)) },
		"Drop 0":            func(a, b []uint64) []uint64 { return one(bucket.Drop(a, 0)) },
		"Drop 4":            func(a, b []uint64) []uint64 { return one(bucket.Drop(a, 4)) },
		"Drop 5":            func(a, b []uint64) []uint64 { return one(bucket.Drop(a, 5)) },
		"Drop the greatest": func(a, b []uint64) []uint64 { return one(bucket.Drop(a, greatest)) },
		"the first half":    func(a, b []uint64) []uint64 { return first(bucket.Split(a)) },
		"the second half":   func(a, b []uint64) []uint64 { return second(bucket.Split(a)) },
		"Merge":             func(a, b []uint64) []uint64 { return bucket.Merge(a, b) },
		"Merge of one":      func(a, b []uint64) []uint64 { return bucket.Merge(a) },
		"Merge of it twice": func(a, b []uint64) []uint64 { return bucket.Merge(a, a) },
		"Merge with nil":    func(a, b []uint64) []uint64 { return bucket.Merge(nil, a, nil) },
		"Merge of three":    func(a, b []uint64) []uint64 { return bucket.Merge(a, b, a) },
	}
}

// roomy is l with others in the spare room behind it.
func roomy(l []uint64) []uint64 {
	return slices.Concat(l, []uint64{4, 9, 0, greatest, 5, 77})[:len(l)]
}

func whole(l []uint64) []uint64 { return l[:cap(l)] }

func overwrite(l []uint64) {
	for i, k := range whole(l) {
		whole(l)[i] = ^k
	}
}

func TestMemory(t *testing.T) {
	for what, f := range calls() {
		for i, x := range samples() {
			for j, y := range samples() {
				apart(t, f, x, y, what, i, j)
			}
		}
	}
}

// apart holds that f changes and keeps nothing of what it is handed, and that its answers share no memory with that, nor with one another.
func apart(t *testing.T, f func(a, b []uint64) []uint64, x, y []uint64, what string, about ...any) {
	t.Helper()
	a, b := roomy(x), roomy(y)
	wholeA, wholeB := slices.Clone(whole(a)), slices.Clone(whole(b))
	one, other := f(a, b), f(a, b)
	want := slices.Clone(one)
	list(t, other, want, what+": the same again", about...)
	stays := func(behind string) {
		t.Helper()
		list(t, whole(a), wholeA, what+": the first list behind "+behind, about...)
		list(t, whole(b), wholeB, what+": the second list behind "+behind, about...)
	}
	stays("the call")
	overwrite(one)
	list(t, other, want, what+": another answer", about...)
	stays("a change of the answer")
	overwrite(a)
	overwrite(b)
	list(t, other, want, what+": the answer behind a change of what was handed in", about...)
}

// TestHalvesStandApart: both share no memory, their spare room neither.
func TestHalvesStandApart(t *testing.T) {
	for i, l := range samples() {
		a, b := bucket.Split(l)
		wantA, wantB := slices.Clone(whole(a)), slices.Clone(whole(b))
		overwrite(a)
		list(t, whole(b), wantB, "the second half behind a change of the first", i)
		a, b = bucket.Split(l)
		overwrite(b)
		list(t, whole(a), wantA, "the first half behind a change of the second", i)
	}
}

func TestListOfListsStays(t *testing.T) {
	a, b, c := []uint64{1, 5}, []uint64{5, 9}, []uint64{7}
	l := [][]uint64{b, a, b, a, c}
	for n := range 6 {
		bucket.Merge(l[:n]...)
		for i, want := range [][]uint64{b, a, b, a, c} {
			list(t, l[i], want, "the lists handed in", n, i)
			same(t, &l[i][0], &want[0], "the lists handed in", n, i)
		}
	}
	got := bucket.Merge(l...)
	clear(l)
	list(t, got, []uint64{1, 5, 7, 9}, "the answer behind a change of what was handed in")
}

// P1, P2

// TestOtherListsEnd: of lists that aren't buckets calls end, too, and answer the same again.
func TestOtherListsEnd(t *testing.T) {
	for i, l := range [][]uint64{{1, 1}, {greatest, 0}, {9, 5, 2}, {0, greatest, 0}, {3, 3, 3, 3, 3}, shuffled(spread(0, 400, 5), 7), shuffled(slices.Concat(spread(0, 50, 1), spread(0, 50, 1)), 8)} {
		was := slices.Clone(l)
		for _, k := range keys(l) {
			same(t, bucket.Has(l, k), bucket.Has(l, k), "Has twice", i, k)
			same(t, find(bucket.Next(l, k)), find(bucket.Next(l, k)), "Next twice", i, k)
			same(t, find(bucket.Prev(l, k)), find(bucket.Prev(l, k)), "Prev twice", i, k)
		}
		for what, f := range calls() {
			for _, o := range samples() {
				list(t, f(l, o), f(l, o), what+" twice", i)
				list(t, f(o, l), f(o, l), what+" twice", i)
			}
		}
		list(t, l, was, "what was handed in", i)
	}
}

func TestExample(t *testing.T) {
	a, b := bucket.Split([]uint64{1, 2, 3})
	list(t, a, []uint64{1, 2}, "the first half")
	list(t, b, []uint64{3}, "the second half")
}
