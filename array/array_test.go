package array_test

import (
	"math"
	"slices"
	"testing"

	"stepstone/array"
)

func same[T comparable](t *testing.T, got, want T, what string, about ...any) {
	t.Helper()
	if got != want {
		t.Fatalf("%s %v: %v, not %v", what, about, got, want)
	}
}

// list holds lists against each other; long ones aren't told.
func list(t *testing.T, got, want []uint16, what string, about ...any) {
	t.Helper()
	if !slices.Equal(got, want) {
		t.Fatalf("%s %v: %v (%d), not %v (%d)", what, about, got[:min(len(got), 40)], len(got), want[:min(len(want), 40)], len(want))
	}
}

// found holds what Next, Prev and Select answer against a list of one number, or of none.
func found(t *testing.T, v uint16, ok bool, want []uint16, what string, about ...any) {
	t.Helper()
	if len(want) == 0 {
		same(t, v, 0, what+" beside false", about...)
		same(t, ok, false, what, about...)
		return
	}
	same(t, ok, true, what, about...)
	same(t, v, want[0], what, about...)
}

// numbers answers a function that tells numbers below n, on and on, by the seed.
func numbers(seed uint64) func(n int) int {
	return func(n int) int {
		seed = seed*6364136223846793005 + 1442695040888963407
		return int(seed >> 33 % uint64(n))
	}
}

func shuffled[T any](l []T, seed uint64) []T {
	number := numbers(seed)
	r := slices.Clone(l)
	for i := range r {
		j := i + number(len(r)-i)
		r[i], r[j] = r[j], r[i]
	}
	return r
}

// steps is from, from + by .. below to.
func steps(from, to, by int) []uint16 {
	var l []uint16
	for v := from; v < to; v += by {
		l = append(l, uint16(v))
	}
	return l
}

// chosen is the numbers below to each of which one of so many is.
func chosen(to, of int, seed uint64) []uint16 {
	number := numbers(seed)
	var l []uint16
	for v := range to {
		if number(of) == 0 {
			l = append(l, uint16(v))
		}
	}
	return l
}

func short() [][]uint16 {
	return [][]uint16{
		nil, {}, {0}, {1}, {65534}, {65535}, {0, 1}, {0, 65535}, {65534, 65535}, {5}, {2, 5, 9}, {3, 5, 7}, {0, 2, 5, 65535},
		{255, 256, 257}, {32767, 32768}, steps(100, 140, 1), steps(0, 65536, 4369), chosen(300, 3, 1), chosen(65536, 700, 2),
	}
}

func samples() [][]uint16 {
	return append(short(), steps(0, 65536, 1), steps(1, 65536, 1), steps(0, 65535, 1), steps(0, 65536, 2), steps(1, 65536, 2), steps(60000, 65536, 1), chosen(65536, 2, 3), chosen(65536, 40, 4))
}

// places are the numbers about which l is asked: the ends, and those about its own numbers.
func places(l []uint16) []uint16 {
	p := []uint16{0, 1, 2, 255, 256, 32767, 32768, 65534, 65535}
	for i := 0; i < len(l); i += 1 + len(l)/60 {
		p = append(p, l[i]-1, l[i], l[i]+1)
	}
	return p
}

func pick(l []uint16, wanted func(uint16) bool) []uint16 {
	var r []uint16
	for _, v := range l {
		if wanted(v) {
			r = append(r, v)
		}
	}
	return r
}

func first(l []uint16) []uint16 { return l[:min(1, len(l))] }

func last(l []uint16) []uint16 { return l[max(0, len(l)-1):] }

// having are the numbers that as many lists have as are wanted.
func having(wanted func(n int) bool, l ...[]uint16) []uint16 {
	var have [1 << 16]int
	for _, x := range l {
		for _, v := range x {
			have[v]++
		}
	}
	var r []uint16
	for v, n := range have {
		if wanted(n) {
			r = append(r, uint16(v))
		}
	}
	return r
}

func anyOf(l ...[]uint16) []uint16 { return having(func(n int) bool { return n > 0 }, l...) }

func allOf(l ...[]uint16) []uint16 {
	return having(func(n int) bool { return n > 0 && n == len(l) }, l...)
}

// P6.1

func TestOf(t *testing.T) {
	list(t, array.Of(), nil, "Of none")
	list(t, array.Of(nil...), nil, "Of nil")
	list(t, array.Of([]uint16{}...), nil, "Of an empty list")
	list(t, array.Of(5, 2, 5), []uint16{2, 5}, "Of 5, 2, 5")
	list(t, array.Of(7, 7, 7, 7), []uint16{7}, "Of 7 four times")
	list(t, array.Of(65535, 0, 65535, 0), []uint16{0, 65535}, "Of the ends")
	list(t, array.Of(9, 8, 7, 1, 0), []uint16{0, 1, 7, 8, 9}, "Of falling ones")
	list(t, array.Of(256, 1, 255, 2), []uint16{1, 2, 255, 256}, "Of numbers whose bytes fall")
	for i, l := range samples() {
		list(t, array.Of(l...), l, "Of rising ones", i)
		for seed := range uint64(3) {
			list(t, array.Of(shuffled(l, seed)...), l, "Of mixed ones", i)
			list(t, array.Of(shuffled(slices.Concat(l, l, last(l)), seed)...), l, "Of mixed ones, twice", i)
		}
	}
}

func TestIs(t *testing.T) {
	for i, l := range samples() {
		same(t, array.Is(l), true, "Is", i)
		for _, at := range places(l) {
			// Two alike, and two that fall, behind one another at any place.
			if i := int(at) % (len(l) + 1); i > 0 && i < len(l) {
				twice := slices.Insert(slices.Clone(l), i, l[i])
				same(t, array.Is(twice), false, "Is, twice", i)
				fallen := slices.Clone(l)
				fallen[i-1], fallen[i] = fallen[i], fallen[i-1]
				same(t, array.Is(fallen), false, "Is, falling", i)
			}
		}
	}
	for _, l := range [][]uint16{{1, 1}, {0, 0}, {65535, 65535}, {65535, 0}, {1, 0}, {2, 1, 3}, {1, 3, 2}, {1, 2, 3, 3}, {0, 65535, 65535}, {0, 1, 0}, {300, 44}} {
		same(t, array.Is(l), false, "Is", l)
	}
}

func TestHasRank(t *testing.T) {
	for i, l := range samples() {
		for _, v := range places(l) {
			same(t, array.Has(l, v), slices.Contains(l, v), "Has", i, v)
			same(t, array.Rank(l, v), len(pick(l, func(w uint16) bool { return w < v })), "Rank", i, v)
		}
	}
}

func TestNextPrev(t *testing.T) {
	for i, l := range samples() {
		for _, v := range places(l) {
			n, ok := array.Next(l, v)
			found(t, n, ok, first(pick(l, func(w uint16) bool { return w >= v })), "Next", i, v)
			n, ok = array.Prev(l, v)
			found(t, n, ok, last(pick(l, func(w uint16) bool { return w <= v })), "Prev", i, v)
		}
	}
}

func TestSelect(t *testing.T) {
	for i, l := range samples() {
		n := len(l)
		for _, k := range []int{math.MinInt, math.MinInt + 1, -1 << 32, -65536, -2, -1, 0, 1, 2, n / 2, n - 2, n - 1, n, n + 1, 65535, 65536, 65537, 1 << 32, math.MaxInt - 1, math.MaxInt} {
			var want []uint16
			if k >= 0 && k < n {
				want = []uint16{l[k]}
			}
			v, ok := array.Select(l, k)
			found(t, v, ok, want, "Select", i, k)
		}
		for k, w := range l {
			v, ok := array.Select(l, k)
			found(t, v, ok, []uint16{w}, "Select", i, k)
		}
	}
}

func TestAddDrop(t *testing.T) {
	for i, l := range samples() {
		for _, v := range places(l) {
			there := slices.Contains(l, v)
			without := pick(l, func(w uint16) bool { return w != v })
			with := slices.Sorted(slices.Values(append(slices.Clone(without), v)))
			got, changed := array.Add(l, v)
			list(t, got, with, "Add", i, v)
			same(t, changed, !there, "Add", i, v)
			got, changed = array.Add(got, v)
			list(t, got, with, "Add again", i, v)
			same(t, changed, false, "Add again", i, v)
			got, changed = array.Drop(l, v)
			list(t, got, without, "Drop", i, v)
			same(t, changed, there, "Drop", i, v)
			got, changed = array.Drop(got, v)
			list(t, got, without, "Drop again", i, v)
			same(t, changed, false, "Drop again", i, v)
		}
	}
}

func TestPart(t *testing.T) {
	for i, l := range samples() {
		p := places(l)
		for j := 0; j < len(p); j += 1 + len(p)/30 {
			from := p[j]
			for _, to := range append([]uint16{from, from + 1, from - 1, from + 20}, p[:min(len(p), 24)]...) {
				want := pick(l, func(v uint16) bool { return v >= from && v <= to })
				list(t, array.Part(l, from, to), want, "Part", i, from, to)
			}
		}
		list(t, array.Part(l, 0, 65535), l, "Part of all", i)
		list(t, array.Part(l, 65535, 0), nil, "Part from above to", i)
		list(t, array.Part(l, 1, 0), nil, "Part from above to", i)
	}
	l := []uint16{0, 3, 5, 9, 65535}
	list(t, array.Part(l, 0, 0), []uint16{0}, "Part of the least")
	list(t, array.Part(l, 65535, 65535), []uint16{65535}, "Part of the greatest")
	list(t, array.Part(l, 3, 9), []uint16{3, 5, 9}, "Part")
	list(t, array.Part(l, 4, 8), []uint16{5}, "Part")
	list(t, array.Part(l, 6, 8), nil, "Part of none")
	list(t, array.Part(l, 9, 3), nil, "Part from above to")
	list(t, array.Part(l, 5, 4), nil, "Part from above to")
}

// TestScript adds and drops on and on, and holds what is answered against a table.
func TestScript(t *testing.T) {
	for seed := range uint64(6) {
		number := numbers(seed)
		var l []uint16
		is := make([]bool, 1<<16)
		for range 1500 {
			v := uint16(number(200))
			if number(2) == 0 {
				v = -v - 1
			}
			var changed bool
			if number(5) < 3 {
				l, changed = array.Add(l, v)
				same(t, changed, !is[v], "Add", v)
				is[v] = true
			} else {
				l, changed = array.Drop(l, v)
				same(t, changed, is[v], "Drop", v)
				is[v] = false
			}
			same(t, array.Has(l, v), is[v], "Has", v)
			same(t, array.Is(l), true, "Is", v)
			same(t, len(l), len(pick(l, func(v uint16) bool { return is[v] })), "how many", v)
		}
		list(t, l, pick(steps(0, 65536, 1), func(v uint16) bool { return is[v] }), "behind a script", seed)
	}
}

// P6.2

func TestOrAndOfTwo(t *testing.T) {
	for i, a := range samples() {
		for j, b := range samples() {
			list(t, array.Or(a, b), anyOf(a, b), "Or", i, j)
			list(t, array.And(a, b), allOf(a, b), "And", i, j)
		}
	}
}

func TestLessXor(t *testing.T) {
	for i, a := range samples() {
		for j, b := range samples() {
			list(t, array.Less(a, b), having(func(n int) bool { return n == 1 }, a, allOf(a, b)), "Less", i, j)
			list(t, array.Xor(a, b), having(func(n int) bool { return n == 1 }, a, b), "Xor", i, j)
		}
		list(t, array.Less(a, a), nil, "Less of one twice", i)
		list(t, array.Xor(a, a), nil, "Xor of one twice", i)
	}
	list(t, array.Less([]uint16{2, 5}, []uint16{5}), []uint16{2}, "Less")
	list(t, array.Less([]uint16{5}, []uint16{2, 5}), nil, "Less")
	list(t, array.Xor([]uint16{2, 5}, []uint16{5, 9}), []uint16{2, 9}, "Xor")
}

func TestOrAndOfNone(t *testing.T) {
	for _, l := range [][][]uint16{nil, {}, {nil}, {{}}, {nil, nil}, {nil, {}, nil}} {
		list(t, array.Or(l...), nil, "Or", l)
		list(t, array.And(l...), nil, "And", l)
	}
}

func TestOrAndOfOne(t *testing.T) {
	for i, l := range samples() {
		for _, f := range joins() {
			list(t, f(l), l, "of one", i)
			list(t, f(l, l), l, "of one twice", i)
			list(t, f(l, l, l), l, "of one three times", i)
			list(t, f(l, l, l, l, l, l, l), l, "of one seven times", i)
		}
		for _, none := range [][]uint16{nil, {}} {
			list(t, array.Or(none, l), l, "Or of none and one", i)
			list(t, array.Or(l, none), l, "Or of one and none", i)
			list(t, array.And(none, l, l), nil, "And of none and one", i)
			list(t, array.And(l, none, l), nil, "And of one and none", i)
			list(t, array.And(l, l, none), nil, "And of one and none", i)
		}
	}
}

func joins() []func(...[]uint16) []uint16 {
	return []func(...[]uint16) []uint16{array.Or, array.And}
}

func TestOrAndOfMany(t *testing.T) {
	number := numbers(9)
	l := samples()
	thick := [][]uint16{steps(0, 65536, 1), steps(0, 65535, 1), steps(1, 65536, 1), steps(0, 65536, 2), chosen(65536, 2, 3), steps(0, 65536, 3), chosen(65536, 2, 5)}
	for range 60 {
		var some, dense [][]uint16
		for range 1 + number(9) {
			some = append(some, l[number(len(l))])
			dense = append(dense, thick[number(len(thick))])
		}
		for _, x := range [][][]uint16{some, dense} {
			list(t, array.Or(x...), anyOf(x...), "Or of many")
			list(t, array.And(x...), allOf(x...), "And of many")
		}
	}
	a, b, c := []uint16{1, 2, 3, 4}, []uint16{2, 4, 6, 65535}, []uint16{0, 3, 4, 65535}
	for _, x := range [][][]uint16{{a, b, c}, {a, c, b}, {b, a, c}, {b, c, a}, {c, a, b}, {c, b, a}} {
		list(t, array.Or(x...), []uint16{0, 1, 2, 3, 4, 6, 65535}, "Or of three")
		list(t, array.And(x...), []uint16{4}, "And of three")
	}
}

func TestOrAndOfVeryMany(t *testing.T) {
	every := steps(0, 65536, 1)
	var ones, lacking [][]uint16
	for _, v := range shuffled(every, 5) {
		ones = append(ones, []uint16{v})
	}
	list(t, array.Or(ones...), every, "Or of each number by itself")
	list(t, array.And(ones...), nil, "And of each number by itself")
	for v := range 300 {
		l, _ := array.Drop(steps(0, 400, 1), uint16(v))
		lacking = append(lacking, l)
	}
	list(t, array.Or(lacking...), steps(0, 400, 1), "Or of what each lacks one of")
	list(t, array.And(lacking...), steps(300, 400, 1), "And of what each lacks one of")
}

// The rule on memory.

// calls are all calls that answer a list, of two lists, and of numbers that they have, and haven't.
func calls() map[string]func(a, b []uint16) []uint16 {
	one := func(l []uint16, _ bool) []uint16 { return l }
	return map[string]func(a, b []uint16) []uint16{
		"Of":                 func(a, b []uint16) []uint16 { return array.Of(a...) },
		"Add 0":              func(a, b []uint16) []uint16 { return one(array.Add(a, 0)) },
		"Add 4":              func(a, b []uint16) []uint16 { return one(array.Add(a, 4)) },
		"Add 5":              func(a, b []uint16) []uint16 { return one(array.Add(a, 5)) },
		"Add 65535":          func(a, b []uint16) []uint16 { return one(array.Add(a, 65535)) },
		"Drop 0":             func(a, b []uint16) []uint16 { return one(array.Drop(a, 0)) },
		"Drop 4":             func(a, b []uint16) []uint16 { return one(array.Drop(a, 4)) },
		"Drop 5":             func(a, b []uint16) []uint16 { return one(array.Drop(a, 5)) },
		"Drop 65535":         func(a, b []uint16) []uint16 { return one(array.Drop(a, 65535)) },
		"Part of all":        func(a, b []uint16) []uint16 { return array.Part(a, 0, 65535) },
		"Part of some":       func(a, b []uint16) []uint16 { return array.Part(a, 3, 300) },
		"Part of none":       func(a, b []uint16) []uint16 { return array.Part(a, 6, 6) },
		"Part from above to": func(a, b []uint16) []uint16 { return array.Part(a, 9, 3) },
		"Or":                 func(a, b []uint16) []uint16 { return array.Or(a, b) },
		"Or of one":          func(a, b []uint16) []uint16 { return array.Or(a) },
		"Or of one twice":    func(a, b []uint16) []uint16 { return array.Or(a, a) },
		"Or with nil":        func(a, b []uint16) []uint16 { return array.Or(nil, a, nil) },
		"Or of three":        func(a, b []uint16) []uint16 { return array.Or(a, b, a) },
		"And":                func(a, b []uint16) []uint16 { return array.And(a, b) },
		"And of one":         func(a, b []uint16) []uint16 { return array.And(a) },
		"And of one twice":   func(a, b []uint16) []uint16 { return array.And(a, a) },
		"And with nil":       func(a, b []uint16) []uint16 { return array.And(a, nil) },
		"And of three":       func(a, b []uint16) []uint16 { return array.And(a, a, b) },
		"Less":               func(a, b []uint16) []uint16 { return array.Less(a, b) },
		"Less of nil":        func(a, b []uint16) []uint16 { return array.Less(nil, a) },
		"Less without nil":   func(a, b []uint16) []uint16 { return array.Less(a, nil) },
		"Less of one twice":  func(a, b []uint16) []uint16 { return array.Less(a, a) },
		"Xor":                func(a, b []uint16) []uint16 { return array.Xor(a, b) },
		"Xor of nil":         func(a, b []uint16) []uint16 { return array.Xor(nil, a) },
		"Xor with nil":       func(a, b []uint16) []uint16 { return array.Xor(a, nil) },
		"Xor of one twice":   func(a, b []uint16) []uint16 { return array.Xor(a, a) },
	}
}

// roomy is l with numbers of others in the spare room behind it.
func roomy(l []uint16) []uint16 {
	return slices.Concat(l, []uint16{4, 9, 0, 65535, 5, 77})[:len(l)]
}

func whole(l []uint16) []uint16 { return l[:cap(l)] }

func overwrite(l []uint16) {
	for i, v := range whole(l) {
		whole(l)[i] = ^v
	}
}

func TestMemory(t *testing.T) {
	for what, f := range calls() {
		for i, x := range short() {
			for j, y := range short() {
				apart(t, f, x, y, what, i, j)
			}
		}
	}
}

// apart holds that f changes and keeps nothing of what it is handed, and that its answers share no memory with that, nor with one another.
func apart(t *testing.T, f func(a, b []uint16) []uint16, x, y []uint16, what string, about ...any) {
	t.Helper()
	a, b := roomy(x), roomy(y)
	wholeA, wholeB := slices.Clone(whole(a)), slices.Clone(whole(b))
	one, other := f(a, b), f(a, b)
	want := slices.Clone(one)
	list(t, other, want, what+": the same again", about...)
	stays := func(behind string) {
		t.Helper()
		list(t, whole(a), wholeA, what+": the first list behind "+behind, about...)
		list(t, whole(b), wholeB, what+": the second list behind "+behind, about...)
	}
	stays("the call")
	overwrite(one)
	list(t, other, want, what+": another answer", about...)
	stays("a change of the answer")
	overwrite(a)
	overwrite(b)
	list(t, other, want, what+": the answer behind a change of what was handed in", about...)
}

func TestListOfListsStays(t *testing.T) {
	a, b, c := []uint16{1, 5}, []uint16{5, 9}, []uint16{7}
	for _, f := range joins() {
		l := [][]uint16{b, a, b, a, c}
		for n := range 5 {
			f(l[:n]...)
			for i, want := range [][]uint16{b, a, b, a, c} {
				list(t, l[i], want, "the lists handed in", n, i)
				same(t, &l[i][0], &want[0], "the lists handed in", n, i)
			}
		}
		got := f(l[:4]...)
		want := slices.Clone(got)
		clear(l)
		list(t, got, want, "the answer behind a change of what was handed in")
	}
}

// P1, P2

func TestOtherListsEnd(t *testing.T) {
	for i, l := range [][]uint16{{1, 1}, {65535, 0}, {9, 5, 2}, {0, 65535, 0}, {3, 3, 3, 3, 3}, shuffled(chosen(400, 2, 6), 7), shuffled(slices.Concat(steps(0, 50, 1), steps(0, 50, 1)), 8)} {
		was := slices.Clone(l)
		for _, v := range places(l) {
			array.Has(l, v)
			array.Rank(l, v)
			array.Next(l, v)
			array.Prev(l, v)
			for _, k := range []int{math.MinInt, -1, int(v), math.MaxInt} {
				array.Select(l, k)
			}
			for _, w := range places(l) {
				array.Part(l, v, w)
			}
		}
		for what, f := range calls() {
			for _, o := range short() {
				list(t, f(l, o), f(l, o), what+" twice", i)
				list(t, f(o, l), f(o, l), what+" twice", i)
			}
			f(l, l)
		}
		list(t, l, was, "what was handed in", i)
	}
}

func TestExamples(t *testing.T) {
	l := array.Of(5, 2, 5)
	list(t, l, []uint16{2, 5}, "Of")
	v, ok := array.Next(l, 3)
	found(t, v, ok, []uint16{5}, "Next")
	list(t, array.Less(l, []uint16{5}), []uint16{2}, "Less")
}
