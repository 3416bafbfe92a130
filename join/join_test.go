package join_test

import (
	"slices"
	"testing"

	"stepstone/box"
	"stepstone/join"
)

func same[T comparable](t *testing.T, got, want T, what string, about ...any) {
	t.Helper()
	if got != want {
		t.Fatalf("%s %v: %v, not %v", what, about, got, want)
	}
}

// list holds lists against each other; long ones aren't told.
func list(t *testing.T, got, want []uint16, what string, about ...any) {
	t.Helper()
	if !slices.Equal(got, want) {
		t.Fatalf("%s %v: %v (%d), not %v (%d)", what, about, got[:min(len(got), 40)], len(got), want[:min(len(want), 40)], len(want))
	}
}

// numbers answers a function that tells numbers below n, on and on, by the seed.
func numbers(seed uint64) func(n int) int {
	return func(n int) int {
		seed = seed*6364136223846793005 + 1442695040888963407
		return int(seed >> 33 % uint64(n))
	}
}

// steps is from, from + by .. below to.
func steps(from, to, by int) []uint16 {
	var l []uint16
	for v := from; v < to; v += by {
		l = append(l, uint16(v))
	}
	return l
}

func every() []uint16 { return steps(0, 65536, 1) }

// chosen is the numbers below to each of which one of so many is.
func chosen(to, of int, seed uint64) []uint16 {
	number := numbers(seed)
	var l []uint16
	for v := range to {
		if number(of) == 0 {
			l = append(l, uint16(v))
		}
	}
	return l
}

// blocks is n runs of so many numbers, one number apart.
func blocks(n, size int) []uint16 {
	var l []uint16
	for i := range n {
		from := i * (size + 1)
		l = append(l, steps(from, from+size, 1)...)
	}
	return l
}

func short() [][]uint16 {
	return [][]uint16{
		nil, {0}, {1}, {65534}, {65535}, {0, 65535}, {0, 1, 2}, {65533, 65534, 65535}, {2, 5}, {5}, {2, 5, 9}, {3, 5, 7}, {63, 64}, {255, 256, 257}, {32767, 32768, 32769},
		steps(100, 140, 1), steps(0, 40, 2), steps(1, 41, 2), chosen(300, 3, 1), blocks(9, 4),
	}
}

func long() [][]uint16 {
	return [][]uint16{
		steps(0, 4096, 1), steps(0, 4097, 1), steps(61439, 65536, 1), blocks(511, 9), chosen(65536, 16, 2),
		steps(0, 65536, 2), chosen(65536, 2, 3), without(every(), 32768), every(),
	}
}

func samples() [][]uint16 { return append(short(), long()...) }

// table is the plain thing that answers are held against: how many of some lists have each number.
type table [1 << 16]uint8

// having are the numbers that as many lists have as are wanted.
func having(wanted func(n int) bool, l ...[]uint16) []uint16 {
	var x table
	for _, y := range l {
		for _, v := range y {
			x[v]++
		}
	}
	var r []uint16
	for v, n := range x {
		if wanted(int(n)) {
			r = append(r, uint16(v))
		}
	}
	return r
}

func anyOf(l ...[]uint16) []uint16 { return having(func(n int) bool { return n > 0 }, l...) }

func allOf(l ...[]uint16) []uint16 {
	return having(func(n int) bool { return n > 0 && n == len(l) }, l...)
}

func one(n int) bool { return n == 1 }

func without(l []uint16, v uint16) []uint16 {
	return slices.DeleteFunc(slices.Clone(l), func(w uint16) bool { return w == v })
}

// others are all numbers that l hasn't.
func others(l []uint16) []uint16 { return having(one, every(), l) }

// plain is the kind, and the cost, of a plain box that has l.
func plain(l []uint16) (kind, cost int) {
	if len(l) > 4096 {
		return 2, 1024
	}
	return 1, len(l)
}

// kept is a box, with what it must tell.
type kept struct {
	*box.Box
	of         []uint16
	kind, cost int
}

func keep(b *box.Box, l []uint16) kept { return kept{b, l, b.Kind(), b.Cost()} }

// ways are boxes that have l, one of each kind that there is of it: plain, as runs if that costs less, and nil if there are no numbers.
func ways(t *testing.T, l []uint16) []kept {
	t.Helper()
	p, o := box.Of(l), box.Of(l)
	all := []kept{keep(p, l)}
	if o.Optimise() {
		same(t, o.Kind(), box.Runs, "Kind behind Optimise")
		all = append(all, keep(o, l))
	}
	if len(l) == 0 {
		all = append(all, keep(nil, l))
	}
	return all
}

func allWays(t *testing.T, l [][]uint16) []kept {
	t.Helper()
	var all []kept
	for _, x := range l {
		all = append(all, ways(t, x)...)
	}
	return all
}

// stays tells that boxes that were handed in are as they were.
func stays(t *testing.T, what string, l ...kept) {
	t.Helper()
	for i, x := range l {
		same(t, x.Kind(), x.kind, what+": Kind of what was handed in", i)
		same(t, x.Cost(), x.cost, what+": Cost of what was handed in", i)
		list(t, x.List(), x.of, what+": what was handed in", i)
	}
}

// has tells that an answer has what is wanted, and is plain.
func has(t *testing.T, b *box.Box, want []uint16, what string, about ...any) {
	t.Helper()
	same(t, b != nil, true, what, about...)
	list(t, b.List(), want, what, about...)
	kind, cost := plain(want)
	same(t, b.Kind(), kind, what+": Kind", about...)
	same(t, b.Cost(), cost, what+": Cost", about...)
	same(t, b.Len(), len(want), what+": Len", about...)
	same(t, b.Plain(), false, what+": Plain", about...)
}

// spoil changes all that a box has, there and back: each of its numbers, and how they are kept.
func spoil(b *box.Box) {
	if b == nil {
		return
	}
	l := b.List()
	for _, v := range l[:min(len(l), 50)] {
		b.Drop(v)
		b.Add(v ^ 1)
	}
	b.Wipe(3000, 65535)
	b.Fill(300, 6000)
	b.Optimise()
	b.Wipe(2, 65535)
	b.Fill(7, 9)
}

// joins are all calls that answer a box of two, with what they must answer.
func joins() map[string]struct {
	of   func(a, b *box.Box) *box.Box
	want func(a, b []uint16) []uint16
} {
	return map[string]struct {
		of   func(a, b *box.Box) *box.Box
		want func(a, b []uint16) []uint16
	}{
		"Or":   {func(a, b *box.Box) *box.Box { return join.Or(a, b) }, func(a, b []uint16) []uint16 { return anyOf(a, b) }},
		"And":  {func(a, b *box.Box) *box.Box { return join.And(a, b) }, func(a, b []uint16) []uint16 { return allOf(a, b) }},
		"Less": {join.Less, func(a, b []uint16) []uint16 { return having(one, a, allOf(a, b)) }},
		"Xor":  {join.Xor, func(a, b []uint16) []uint16 { return having(one, a, b) }},
	}
}

// asked holds what is answered of a and b beside boxes against how many both have.
func asked(t *testing.T, a, b kept, both int, about ...any) {
	t.Helper()
	m, n := len(a.of), len(b.of)
	same(t, join.Both(a.Box, b.Box), both, "Both", about...)
	same(t, join.Within(a.Box, b.Box), both == m, "Within", about...)
	same(t, join.Equal(a.Box, b.Box), both == m && both == n, "Equal", about...)
	same(t, join.Meet(a.Box, b.Box), both > 0, "Meet", about...)
}

// held holds all calls of two boxes, in each choice of kinds, against what lists say.
func held(t *testing.T, a, b []kept, about ...any) {
	t.Helper()
	both := len(allOf(a[0].of, b[0].of))
	for what, f := range joins() {
		want := f.want(a[0].of, b[0].of)
		for i, x := range a {
			for j, y := range b {
				has(t, f.of(x.Box, y.Box), want, what, i, j, about)
			}
		}
	}
	for i, x := range a {
		for j, y := range b {
			asked(t, x, y, both, i, j, about)
			stays(t, "held", x, y)
		}
	}
}

// P10.1

// TestKindsOfSamples: there are samples of each kind, and runs of few numbers as well as of many.
func TestKindsOfSamples(t *testing.T) {
	var n [4]int
	few, many := false, false
	for _, x := range allWays(t, samples()) {
		n[x.kind]++
		if x.kind == box.Runs {
			few, many = few || len(x.of) <= 4096, many || len(x.of) > 4096
		}
	}
	for kind := range n {
		same(t, n[kind] > 0, true, "boxes of a kind", kind)
	}
	same(t, few && many, true, "runs of few and of many")
}

func TestOfTwo(t *testing.T) {
	t.Parallel()
	var all [][]kept
	for _, l := range samples() {
		all = append(all, ways(t, l))
	}
	for i, a := range all {
		for j, b := range all {
			held(t, a, b, i, j)
		}
	}
}

// TestAllOfFew joins all choices of a few numbers about the ends.
func TestAllOfFew(t *testing.T) {
	t.Parallel()
	few := []uint16{0, 1, 2, 65534, 65535}
	var all [][]kept
	for c := range 1 << len(few) {
		var l []uint16
		for i, v := range few {
			if c>>i&1 == 1 {
				l = append(l, v)
			}
		}
		all = append(all, ways(t, l))
	}
	for i, a := range all {
		for j, b := range all {
			held(t, a, b, i, j)
		}
	}
}

// TestThreeOfFew joins all choices of three of a few numbers.
func TestThreeOfFew(t *testing.T) {
	t.Parallel()
	all := [][]uint16{nil, {0}, {7}, {65535}, {0, 7}, {0, 65535}, {7, 65535}, {0, 7, 65535}, {5, 6, 7}}
	for _, a := range all {
		for _, b := range all {
			for _, c := range all {
				x, y, z := ways(t, a), ways(t, b), ways(t, c)
				i, j, k := x[len(x)-1], y[len(y)-1], z[0]
				has(t, join.Or(i.Box, j.Box, k.Box), anyOf(a, b, c), "Or of three", a, b, c)
				has(t, join.And(i.Box, j.Box, k.Box), allOf(a, b, c), "And of three", a, b, c)
				stays(t, "of three", i, j, k)
			}
		}
	}
}

func TestOfNone(t *testing.T) {
	empty := box.New()
	for i, l := range [][]*box.Box{nil, {}, {nil}, {nil, nil}, {nil, nil, nil, nil}, {empty}, {empty, empty}, {nil, empty, nil}} {
		for what, f := range many() {
			a, b := f.of(l...), f.of(l...)
			has(t, a, nil, what+" of none", i)
			has(t, b, nil, what+" of none, again", i)
			same(t, a != b && a != empty, true, what+" of none: a new box", i)
			same(t, a.Add(65535), true, "Add to what none has", i)
			same(t, a.Fill(0, 1), 2, "Fill of what none has", i)
			list(t, a.List(), []uint16{0, 1, 65535}, "behind Add and Fill", i)
			has(t, b, nil, what+" of none behind a change of another answer", i)
			has(t, f.of(l...), nil, what+" of none, once more", i)
			has(t, empty, nil, "the empty box", i)
		}
	}
}

// many are the calls of any number of boxes.
func many() map[string]struct {
	of   func(...*box.Box) *box.Box
	want func(...[]uint16) []uint16
} {
	return map[string]struct {
		of   func(...*box.Box) *box.Box
		want func(...[]uint16) []uint16
	}{"Or": {join.Or, anyOf}, "And": {join.And, allOf}}
}

func TestOfOne(t *testing.T) {
	t.Parallel()
	for i, x := range allWays(t, samples()) {
		b := x.Box
		for what, f := range many() {
			has(t, f.of(b), x.of, what+" of one", i)
			has(t, f.of(b, b), x.of, what+" of one twice", i)
			has(t, f.of(b, b, b), x.of, what+" of one three times", i)
			has(t, f.of(b, b, b, b, b, b, b, b), x.of, what+" of one eight times", i)
			has(t, f.of(b, b.Copy(), b), x.of, what+" of one and its copy", i)
		}
		for what, f := range map[string]func(a, b *box.Box) *box.Box{"Less": join.Less, "Xor": join.Xor} {
			has(t, f(b, b), nil, what+" of one twice", i)
			has(t, f(b, b.Copy()), nil, what+" of one and its copy", i)
		}
		n := len(x.of)
		asked(t, x, x, n, "of one twice", i)
		asked(t, x, keep(b.Copy(), x.of), n, "of one and its copy", i)
		same(t, join.Within(b, b) && join.Equal(b, b), true, "Within and Equal of one twice", i)
		same(t, join.Meet(b, b), n > 0, "Meet of one twice", i)
		stays(t, "of one", x)
	}
}

func TestNil(t *testing.T) {
	t.Parallel()
	for i, x := range allWays(t, samples()) {
		b, n := x.Box, len(x.of)
		has(t, join.Or(nil, b), x.of, "Or of nil and one", i)
		has(t, join.Or(b, nil), x.of, "Or of one and nil", i)
		has(t, join.Or(nil, b, nil, b, nil), x.of, "Or of one and nil ones", i)
		has(t, join.And(nil, b), nil, "And of nil and one", i)
		has(t, join.And(b, nil), nil, "And of one and nil", i)
		has(t, join.And(b, b, nil), nil, "And of one twice and nil", i)
		has(t, join.And(b, nil, b), nil, "And of one, nil and one", i)
		has(t, join.And(nil, b, b), nil, "And of nil and one twice", i)
		has(t, join.Less(nil, b), nil, "Less of nil and one", i)
		has(t, join.Less(b, nil), x.of, "Less of one and nil", i)
		has(t, join.Xor(nil, b), x.of, "Xor of nil and one", i)
		has(t, join.Xor(b, nil), x.of, "Xor of one and nil", i)
		same(t, join.Both(nil, b), 0, "Both of nil and one", i)
		same(t, join.Both(b, nil), 0, "Both of one and nil", i)
		same(t, join.Within(nil, b), true, "Within of nil and one", i)
		same(t, join.Within(b, nil), n == 0, "Within of one and nil", i)
		same(t, join.Equal(nil, b), n == 0, "Equal of nil and one", i)
		same(t, join.Equal(b, nil), n == 0, "Equal of one and nil", i)
		same(t, join.Meet(nil, b), false, "Meet of nil and one", i)
		same(t, join.Meet(b, nil), false, "Meet of one and nil", i)
		stays(t, "with nil", x)
	}
	for what, f := range joins() {
		b := f.of(nil, nil)
		has(t, b, nil, what+" of nil and nil")
		same(t, b.Fill(0, 65535), 65536, "Fill of what is of nil and nil")
	}
	same(t, join.Both(nil, nil), 0, "Both of nil and nil")
	same(t, join.Within(nil, nil), true, "Within of nil and nil")
	same(t, join.Equal(nil, nil), true, "Equal of nil and nil")
	same(t, join.Meet(nil, nil), false, "Meet of nil and nil")
}

func TestOfMany(t *testing.T) {
	t.Parallel()
	few, thick := allWays(t, samples()), allWays(t, long())
	for seed := range uint64(60) {
		number := numbers(seed)
		// Of all samples hardly anything is in each of many; of the long ones more is.
		from := [][]kept{few, thick, thick[len(thick)/2:]}[seed%3]
		var some []kept
		var lists [][]uint16
		var handed []*box.Box
		for range 1 + number(9) {
			x := from[number(len(from))]
			for range 1 + number(8)/7 {
				some, lists, handed = append(some, x), append(lists, x.of), append(handed, x.Box)
			}
		}
		for what, f := range many() {
			has(t, f.of(handed...), f.want(lists...), what+" of many", seed)
		}
		stays(t, "of many", some...)
	}
}

func TestOrders(t *testing.T) {
	t.Parallel()
	for _, l := range [][][]uint16{
		{{1, 2, 3, 4}, {2, 4, 6, 65535}, {0, 3, 4, 65535}},
		{steps(0, 9000, 1), {5, 9, 8999, 9000}, steps(0, 65536, 3)},
		{steps(0, 40000, 1), steps(100, 50000, 1), steps(99, 65536, 2)},
		{every(), nil, {7}},
	} {
		var x [][]kept
		for _, y := range l {
			x = append(x, ways(t, y))
		}
		for _, p := range [][]int{{0, 1, 2}, {0, 2, 1}, {1, 0, 2}, {1, 2, 0}, {2, 0, 1}, {2, 1, 0}} {
			for _, a := range x[p[0]] {
				for _, b := range x[p[1]] {
					for _, c := range x[p[2]] {
						for what, f := range many() {
							has(t, f.of(a.Box, b.Box, c.Box), f.want(l...), what+" of three", p)
						}
						stays(t, "of three", a, b, c)
					}
				}
			}
		}
	}
}

func TestOfVeryMany(t *testing.T) {
	t.Parallel()
	number := numbers(5)
	ones := make([]*box.Box, 1<<16)
	for i := range ones {
		ones[i] = box.Of([]uint16{uint16(i)})
	}
	for i := range ones {
		j := i + number(len(ones)-i)
		ones[i], ones[j] = ones[j], ones[i]
	}
	has(t, join.Or(ones...), every(), "Or of each number by itself")
	has(t, join.And(ones...), nil, "And of each number by itself")
	b := box.Of(every())
	var lacking []*box.Box
	for v := range uint16(200) {
		b.Drop(v * 300)
		lacking = append(lacking, b.Copy())
		if v%3 == 0 {
			lacking[v].Optimise()
		}
		b.Add(v * 300)
	}
	want := slices.DeleteFunc(every(), func(v uint16) bool { return v%300 == 0 && v < 60000 })
	has(t, join.And(lacking...), want, "And of boxes that lack one number each")
	has(t, join.Or(lacking...), every(), "Or of boxes that lack one number each")
	alike := slices.Repeat([]*box.Box{box.Of([]uint16{0, 9, 65535})}, 30000)
	has(t, join.Or(alike...), []uint16{0, 9, 65535}, "Or of one very often")
	has(t, join.And(alike...), []uint16{0, 9, 65535}, "And of one very often")
	alike[29999] = nil
	has(t, join.And(alike...), nil, "And of one very often, and nil")
}

// TestEachNumber holds one number against all others, and against all, at both ends and on and on between them.
func TestEachNumber(t *testing.T) {
	t.Parallel()
	all := box.Of(every())
	for _, v := range steps(0, 65536, 5) {
		a := box.Of([]uint16{v})
		all.Drop(v)
		same(t, join.Meet(a, all) || join.Meet(all, a), false, "Meet of one number and all others", v)
		same(t, join.Within(a, all), false, "Within of one number and all others", v)
		same(t, join.Both(a, all)+join.Both(all, a), 0, "Both of one number and all others", v)
		same(t, join.And(a, all).Len(), 0, "And of one number and all others", v)
		has(t, join.Less(a, all), []uint16{v}, "Less of one number and all others", v)
		all.Add(v)
		same(t, join.Meet(a, all) && join.Meet(all, a), true, "Meet of one number and all", v)
		same(t, join.Within(a, all), true, "Within of one number and all", v)
		same(t, join.Both(a, all)+join.Both(all, a), 2, "Both of one number and all", v)
		has(t, join.And(all, a), []uint16{v}, "And of all and one number", v)
		same(t, join.Less(a, all).Len(), 0, "Less of one number and all", v)
	}
	list(t, all.List(), every(), "all numbers")
}

// TestDifferInOne joins boxes one of which has a number more.
func TestDifferInOne(t *testing.T) {
	t.Parallel()
	for i, l := range samples() {
		for _, v := range []uint16{0, 1, 5, 63, 64, 4095, 4096, 32768, 65534, 65535} {
			if i%2 == 0 && v%2 == 1 && len(l) > 4097 {
				continue
			}
			more, less := anyOf(l, []uint16{v}), without(l, v)
			for _, a := range ways(t, more) {
				for _, b := range ways(t, less) {
					has(t, join.Less(a.Box, b.Box), []uint16{v}, "Less", i, v)
					has(t, join.Less(b.Box, a.Box), nil, "Less, turned", i, v)
					has(t, join.Xor(a.Box, b.Box), []uint16{v}, "Xor", i, v)
					has(t, join.Xor(b.Box, a.Box), []uint16{v}, "Xor, turned", i, v)
					has(t, join.And(a.Box, b.Box), less, "And", i, v)
					has(t, join.Or(b.Box, a.Box), more, "Or", i, v)
					asked(t, a, b, len(less), i, v)
					asked(t, b, a, len(less), "turned", i, v)
				}
			}
		}
	}
}

// TestAsManyButOthers joins boxes that have as many numbers, but not the same.
func TestAsManyButOthers(t *testing.T) {
	t.Parallel()
	for i, x := range [][2][]uint16{
		{{0}, {65535}}, {{3, 4}, {3, 5}}, {{0, 1, 2}, {1, 2, 3}}, {{0, 1, 2}, {3, 4, 5}}, {steps(0, 4096, 1), steps(1, 4097, 1)}, {steps(0, 4097, 1), steps(1, 4098, 1)},
		{steps(0, 65536, 2), steps(1, 65536, 2)}, {without(every(), 7), without(every(), 8)}, {without(every(), 0), without(every(), 65535)}, {steps(0, 32768, 1), steps(32768, 65536, 1)}, {blocks(511, 9), steps(60937, 65536, 1)},
	} {
		same(t, len(x[0]), len(x[1]), "as many", i)
		for _, a := range ways(t, x[0]) {
			for _, b := range ways(t, x[1]) {
				same(t, join.Equal(a.Box, b.Box) || join.Equal(b.Box, a.Box), false, "Equal", i)
				same(t, join.Within(a.Box, b.Box) || join.Within(b.Box, a.Box), false, "Within", i)
			}
		}
		held(t, ways(t, x[0]), ways(t, x[1]), i)
	}
}

// TestMost has each call answer as many numbers as an array has at most, one less, and one more, also where runs would cost less.
func TestMost(t *testing.T) {
	t.Parallel()
	extra := []uint16{20003, 20004, 20005, 20006, 40000}
	for _, n := range []int{4095, 4096, 4097} {
		for i, l := range [][]uint16{steps(0, n, 1), steps(65536-n, 65536, 1), steps(0, 3*n, 3), steps(9, 9+2*n, 2)} {
			same(t, len(l), n, "as many", n, i)
			rest := others(l)
			for what, x := range map[string][][2][]uint16{
				"Or":   {{l, nil}, {nil, l}, {l, l}, {l[:n-1], l[n-1:]}, {l[:1], l[1:]}, {l[:n/2], l[n/3:]}},
				"And":  {{l, l}, {l, every()}, {every(), l}, {append(l[:n:n], rest[:9]...), append(l[:n:n], rest[9:5000]...)}},
				"Less": {{l, nil}, {every(), rest}, {anyOf(l, extra), having(one, extra, allOf(l, extra))}, {l, rest}},
				"Xor":  {{l, nil}, {nil, l}, {every(), rest}, {rest, every()}, {l[:n-1], l[n-1:]}, {anyOf(l, rest[:7000]), rest[:7000]}},
			} {
				for j, y := range x {
					for _, a := range ways(t, y[0]) {
						for _, b := range ways(t, y[1]) {
							has(t, joins()[what].of(a.Box, b.Box), l, what, n, i, j)
						}
					}
				}
			}
		}
	}
}

// TestAnswersAreNew: answers go their own way, and what was handed in goes its own, of whatever kinds.
func TestAnswersAreNew(t *testing.T) {
	t.Parallel()
	lists := [][]uint16{nil, {0, 1, 64, 65535}, {1, 2, 64}, steps(0, 4096, 1), steps(0, 4097, 1), steps(3, 20000, 2)}
	calls := map[string]func(a, b *box.Box) *box.Box{
		"Or of one":         func(a, b *box.Box) *box.Box { return join.Or(a) },
		"Or of one twice":   func(a, b *box.Box) *box.Box { return join.Or(b, b) },
		"Or with nil":       func(a, b *box.Box) *box.Box { return join.Or(nil, a, nil) },
		"And of one":        func(a, b *box.Box) *box.Box { return join.And(b) },
		"And of one twice":  func(a, b *box.Box) *box.Box { return join.And(a, a) },
		"And of three":      func(a, b *box.Box) *box.Box { return join.And(b, a, b) },
		"Less with nil":     func(a, b *box.Box) *box.Box { return join.Less(a, nil) },
		"Less of one twice": func(a, b *box.Box) *box.Box { return join.Less(a, a) },
		"Xor with nil":      func(a, b *box.Box) *box.Box { return join.Xor(nil, b) },
		"Xor of one twice":  func(a, b *box.Box) *box.Box { return join.Xor(b, b) },
	}
	for what, f := range joins() {
		calls[what] = f.of
	}
	for what, f := range calls {
		for _, x := range allWays(t, lists) {
			for _, y := range allWays(t, lists) {
				goOwnWays(t, what, f, x, y)
			}
		}
	}
}

func goOwnWays(t *testing.T, what string, f func(a, b *box.Box) *box.Box, x, y kept) {
	t.Helper()
	a, b := keep(x.Copy(), x.of), keep(y.Copy(), y.of)
	answer, other := f(a.Box, b.Box), f(a.Box, b.Box)
	same(t, answer != nil && answer != a.Box && answer != b.Box && answer != other, true, what+": a new box")
	want := answer.List()
	has(t, other, want, what+", again")
	spoil(answer)
	stays(t, what+" behind a change of the answer", a, b)
	has(t, other, want, what+": another answer behind a change of the first")
	spoil(a.Box)
	stays(t, what+" behind a change of the first", b)
	has(t, other, want, what+": the answer behind a change of the first")
	spoil(b.Box)
	has(t, other, want, what+": the answer behind a change of both")
	has(t, f(x.Box, y.Box), want, what+", of what was copied")
	stays(t, what+": what was copied", x, y)
}

// TestBoxesHandedIn: the list of boxes stays, its spare room too, and isn't kept.
func TestBoxesHandedIn(t *testing.T) {
	a, b, c := box.Of([]uint16{1, 5}), box.Of([]uint16{5, 9}), box.Of(steps(0, 6000, 1))
	c.Optimise()
	for what, f := range many() {
		was := []*box.Box{b, nil, c, a, b, nil, a, c, b, a}
		for n := range was {
			l := slices.Clone(was)
			f.of(l[:n]...)
			same(t, slices.Equal(l, was), true, what+": the list handed in", n)
		}
		l := []*box.Box{c, b, a}
		answer := f.of(l...)
		want := answer.List()
		clear(l)
		has(t, answer, want, what+" behind a change of what was handed in")
	}
	list(t, a.List(), []uint16{1, 5}, "the first")
	list(t, b.List(), []uint16{5, 9}, "the second")
	same(t, c.Kind(), box.Runs, "the third")
}

// TestScript has a few boxes, which are joined and changed on and on; behind each call each is as it must be.
func TestScript(t *testing.T) {
	t.Parallel()
	for seed := range uint64(6) {
		number := numbers(seed)
		l := make([]kept, 4)
		for i := range l {
			l[i] = keep(box.New(), nil)
		}
		for n := range 250 {
			i, j, k := number(len(l)), number(len(l)), number(len(l))
			// About both ends, so that ranges meet, and now and then more than 4096.
			from := uint16(number(2)*60000 + number(5000))
			to := from + uint16(min(65535-int(from), []int{0, number(300), number(5500)}[number(3)]))
			switch c := number(12); c {
			case 0, 1, 2:
				if l[i].Fill(from, to) > 0 {
					l[i] = keep(l[i].Box, anyOf(l[i].of, steps(int(from), int(to)+1, 1)))
				}
			case 3, 4:
				l[i].Wipe(from, to)
				l[i] = keep(l[i].Box, slices.DeleteFunc(slices.Clone(l[i].of), func(v uint16) bool { return v >= from && v <= to }))
			case 5, 6:
				l[i].Optimise()
				l[i] = keep(l[i].Box, l[i].of)
			case 7:
				l[i] = keep(nil, nil)
				if number(2) == 0 {
					l[i] = keep(box.Of([]uint16{from}), []uint16{from})
				}
			default:
				what := []string{"Or", "And", "Less", "Xor"}[c-8]
				f := joins()[what]
				answer, want := f.of(l[i].Box, l[j].Box), f.want(l[i].of, l[j].of)
				has(t, answer, want, what, seed, n)
				l[k] = keep(answer, want)
			}
			if l[k].Box == nil {
				l[k] = keep(box.New(), nil)
			}
			stays(t, "script", l...)
			asked(t, l[i], l[j], len(allOf(l[i].of, l[j].of)), seed, n)
		}
	}
}

func TestExamples(t *testing.T) {
	a, b := box.Of([]uint16{2, 5}), box.Of([]uint16{5})
	has(t, join.Less(a, b), []uint16{2}, "Less")
	same(t, join.Both(a, b), 1, "Both")
}
