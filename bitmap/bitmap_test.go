package bitmap_test

import (
	"iter"
	"math"
	"slices"
	"testing"

	"stepstone/bitmap"
)

func same[T comparable](t *testing.T, got, want T, what string, about ...any) {
	t.Helper()
	if got != want {
		t.Fatalf("%s %v: %v, not %v", what, about, got, want)
	}
}

// list holds lists against each other; long ones aren't told.
func list(t *testing.T, got, want []uint16, what string, about ...any) {
	t.Helper()
	if !slices.Equal(got, want) {
		t.Fatalf("%s %v: %v (%d), not %v (%d)", what, about, got[:min(len(got), 40)], len(got), want[:min(len(want), 40)], len(want))
	}
}

// found holds what Next, Prev and Select answer against a list of one number, or of none.
func found(t *testing.T, v uint16, ok bool, want []uint16, what string, about ...any) {
	t.Helper()
	if len(want) == 0 {
		same(t, v, 0, what+" beside false", about...)
		same(t, ok, false, what, about...)
		return
	}
	same(t, ok, true, what, about...)
	same(t, v, want[0], what, about...)
}

// numbers answers a function that tells numbers below n, on and on, by the seed.
func numbers(seed uint64) func(n int) int {
	return func(n int) int {
		seed = seed*6364136223846793005 + 1442695040888963407
		return int(seed >> 33 % uint64(n))
	}
}

func shuffled[T any](l []T, seed uint64) []T {
	number := numbers(seed)
	r := slices.Clone(l)
	for i := range r {
		j := i + number(len(r)-i)
		r[i], r[j] = r[j], r[i]
	}
	return r
}

// table is the plain thing that a bitmap is held against.
type table [1 << 16]bool

func tableOf(l []uint16) *table {
	var x table
	for _, v := range l {
		x[v] = true
	}
	return &x
}

func (x *table) list() []uint16 {
	var l []uint16
	for v, is := range x {
		if is {
			l = append(l, uint16(v))
		}
	}
	return l
}

// fill makes all from from up to to so: how many were not.
func (x *table) fill(from, to uint16, so bool) int {
	n := 0
	for v := int(from); v <= int(to); v++ {
		if x[v] != so {
			x[v] = so
			n++
		}
	}
	return n
}

// steps is from, from + by .. below to.
func steps(from, to, by int) []uint16 {
	var l []uint16
	for v := from; v < to; v += by {
		l = append(l, uint16(v))
	}
	return l
}

// chosen is the numbers below to each of which one of so many is.
func chosen(to, of int, seed uint64) []uint16 {
	number := numbers(seed)
	var l []uint16
	for v := range to {
		if number(of) == 0 {
			l = append(l, uint16(v))
		}
	}
	return l
}

func short() [][]uint16 {
	return [][]uint16{
		nil, {}, {0}, {63}, {64}, {65534}, {65535}, {0, 1}, {0, 65535}, {65534, 65535}, {62, 63}, {63, 64}, {64, 65}, {63, 65},
		{3, 4, 6, 7, 8, 9}, {255, 256, 257}, {32767, 32768}, steps(100, 140, 1), steps(0, 65536, 4369), chosen(300, 3, 1),
	}
}

func samples() [][]uint16 {
	return append(short(), steps(0, 65536, 1), steps(1, 65536, 1), steps(0, 65535, 1), steps(0, 65536, 2), steps(1, 65536, 2), steps(63, 65536, 64), steps(60000, 65536, 1), chosen(65536, 2, 3), chosen(65536, 700, 4))
}

// edges are numbers where words, and all numbers, begin and end.
func edges() []uint16 {
	return []uint16{0, 1, 5, 62, 63, 64, 65, 127, 128, 300, 32767, 32768, 65407, 65408, 65471, 65472, 65534, 65535}
}

// places are the edges, and what is about l's own numbers.
func places(l []uint16) []uint16 {
	p := edges()
	for i := 0; i < len(l); i += 1 + len(l)/40 {
		p = append(p, l[i]-1, l[i], l[i]+1)
	}
	return p
}

func pick(l []uint16, wanted func(uint16) bool) []uint16 {
	var r []uint16
	for _, v := range l {
		if wanted(v) {
			r = append(r, v)
		}
	}
	return r
}

func first(l []uint16) []uint16 { return l[:min(1, len(l))] }

func last(l []uint16) []uint16 { return l[max(0, len(l)-1):] }

// runs is how many of l's numbers don't follow the one ahead.
func runs(l []uint16) int {
	n := 0
	for i, v := range l {
		if i == 0 || l[i-1]+1 != v {
			n++
		}
	}
	return n
}

// has holds what b tells of all its numbers against a list.
func has(t *testing.T, b *bitmap.Bitmap, want []uint16, what string, about ...any) {
	t.Helper()
	list(t, slices.Collect(b.All()), want, what+": All", about...)
	same(t, b.Len(), len(want), what+": Len", about...)
	same(t, b.Runs(), runs(want), what+": Runs", about...)
}

// asked holds what b tells of single numbers against a list.
func asked(t *testing.T, b *bitmap.Bitmap, want []uint16, about ...any) {
	t.Helper()
	for _, v := range places(want) {
		below, upTo := 0, 0
		for _, w := range want {
			if w < v {
				below++
			}
			if w <= v {
				upTo++
			}
		}
		same(t, b.Has(v), upTo > below, "Has", v, about)
		same(t, b.Rank(v), below, "Rank", v, about)
		n, ok := b.Next(v)
		found(t, n, ok, first(want[below:]), "Next", v, about)
		n, ok = b.Prev(v)
		found(t, n, ok, last(want[:upTo]), "Prev", v, about)
	}
	n := len(want)
	for _, k := range []int{math.MinInt, -1 << 32, -65536, -2, -1, 0, 1, 63, 64, n / 2, n - 2, n - 1, n, n + 1, 65535, 65536, 65537, 1 << 32, math.MaxInt} {
		var w []uint16
		if k >= 0 && k < n {
			w = want[k : k+1]
		}
		v, ok := b.Select(k)
		found(t, v, ok, w, "Select", k, about)
	}
}

// P7.1

func TestNew(t *testing.T) {
	a, b := bitmap.New(), bitmap.New()
	same(t, a != nil && b != nil && a != b, true, "New")
	has(t, a, nil, "New")
	asked(t, a, nil)
	same(t, a.Fill(3, 9), 7, "Fill")
	has(t, b, nil, "another one")
	same(t, b.Add(65535), true, "Add")
	has(t, a, steps(3, 10, 1), "the first one")
}

func TestOf(t *testing.T) {
	for i, l := range samples() {
		b := bitmap.Of(l)
		has(t, b, l, "Of", i)
		asked(t, b, l, i)
		has(t, b, l, "behind what was asked", i)
		for seed := range uint64(2) {
			has(t, bitmap.Of(shuffled(l, seed)), l, "Of mixed ones", i)
			has(t, bitmap.Of(shuffled(slices.Concat(l, l, last(l)), seed)), l, "Of mixed ones, twice", i)
		}
	}
	has(t, bitmap.Of([]uint16{5, 2, 5}), []uint16{2, 5}, "Of 5, 2, 5")
	has(t, bitmap.Of([]uint16{65535, 0, 65535, 0}), []uint16{0, 65535}, "Of the ends")
}

func TestListOfOfIsntKept(t *testing.T) {
	l := []uint16{9, 2, 2, 77, 78, 79}[:3]
	b := bitmap.Of(l)
	list(t, l[:6], []uint16{9, 2, 2, 77, 78, 79}, "what was handed in")
	clear(l)
	has(t, b, []uint16{2, 9}, "Of, behind a change of what was handed in")
	b.Fill(0, 65535)
	list(t, l[:6], []uint16{0, 0, 0, 77, 78, 79}, "what was handed in, behind a change of the bitmap")
}

func TestAddDrop(t *testing.T) {
	for i, l := range samples() {
		b := bitmap.Of(l)
		for _, v := range places(l) {
			there := slices.Contains(l, v)
			without := pick(l, func(w uint16) bool { return w != v })
			with := tableOf(append(slices.Clone(without), v)).list()
			if there {
				same(t, b.Add(v), false, "Add", v, i)
				same(t, b.Drop(v), true, "Drop", v, i)
				has(t, b, without, "Drop", v, i)
				same(t, b.Drop(v), false, "Drop again", v, i)
				has(t, b, without, "Drop again", v, i)
				same(t, b.Add(v), true, "Add", v, i)
			} else {
				same(t, b.Drop(v), false, "Drop", v, i)
				same(t, b.Add(v), true, "Add", v, i)
				has(t, b, with, "Add", v, i)
				same(t, b.Add(v), false, "Add again", v, i)
				has(t, b, with, "Add again", v, i)
				same(t, b.Drop(v), true, "Drop", v, i)
			}
		}
		has(t, b, l, "behind all", i)
	}
}

func TestFillWipe(t *testing.T) {
	ends := []uint16{0, 1, 62, 63, 64, 65, 127, 128, 300, 65472, 65534, 65535}
	for i, l := range samples() {
		for _, from := range ends {
			for _, to := range ends {
				x := tableOf(l)
				b := bitmap.Of(l)
				same(t, b.Fill(from, to), x.fill(from, to, true), "Fill", from, to, i)
				list(t, slices.Collect(b.All()), x.list(), "Fill", from, to, i)
				same(t, b.Fill(from, to), 0, "Fill again", from, to, i)
				b, x = bitmap.Of(l), tableOf(l)
				same(t, b.Wipe(from, to), x.fill(from, to, false), "Wipe", from, to, i)
				list(t, slices.Collect(b.All()), x.list(), "Wipe", from, to, i)
				same(t, b.Wipe(from, to), 0, "Wipe again", from, to, i)
			}
		}
	}
}

func TestFillWipeEnds(t *testing.T) {
	b := bitmap.New()
	same(t, b.Fill(65535, 0), 0, "Fill from above to")
	same(t, b.Fill(9, 8), 0, "Fill from above to")
	same(t, b.Fill(64, 63), 0, "Fill from above to")
	has(t, b, nil, "behind Fill from above to")
	same(t, b.Fill(0, 0), 1, "Fill of the least")
	same(t, b.Fill(65535, 65535), 1, "Fill of the greatest")
	has(t, b, []uint16{0, 65535}, "behind Fill of the ends")
	same(t, b.Fill(0, 65535), 65534, "Fill of the others")
	has(t, b, steps(0, 65536, 1), "behind Fill of all")
	same(t, b.Wipe(65535, 0), 0, "Wipe from above to")
	same(t, b.Wipe(1, 0), 0, "Wipe from above to")
	has(t, b, steps(0, 65536, 1), "behind Wipe from above to")
	same(t, b.Wipe(0, 0), 1, "Wipe of the least")
	same(t, b.Wipe(65535, 65535), 1, "Wipe of the greatest")
	has(t, b, steps(1, 65535, 1), "behind Wipe of the ends")
	same(t, b.Wipe(0, 65535), 65534, "Wipe of the others")
	has(t, b, nil, "behind Wipe of all")
}

func TestRuns(t *testing.T) {
	for _, x := range []struct {
		want int
		of   []uint16
	}{
		{0, nil}, {1, []uint16{0}}, {1, []uint16{65535}}, {2, []uint16{0, 65535}}, {1, []uint16{63, 64}}, {2, []uint16{63, 65}}, {2, []uint16{62, 64}}, {1, []uint16{127, 128, 129}},
		{3, []uint16{0, 2, 4}}, {2, []uint16{1, 2, 4, 5}}, {1, steps(0, 64, 1)}, {1, steps(64, 128, 1)}, {1, steps(0, 128, 1)}, {2, append(steps(0, 64, 1), steps(128, 192, 1)...)},
		{1, steps(0, 65536, 1)}, {32768, steps(0, 65536, 2)}, {32768, steps(1, 65536, 2)}, {1024, steps(63, 65536, 64)}, {1024, steps(0, 65536, 64)},
	} {
		same(t, bitmap.Of(x.of).Runs(), x.want, "Runs", len(x.of))
	}
}

func TestAll(t *testing.T) {
	for _, l := range short() {
		walk(t, bitmap.Of(l).All(), l)
	}
	b := bitmap.New()
	all := b.All()
	walk(t, all, nil)
	b.Add(70)
	walk(t, all, []uint16{70})
	b.Fill(65534, 65535)
	b.Add(0)
	walk(t, all, []uint16{0, 70, 65534, 65535})
	b.Drop(70)
	walk(t, all, []uint16{0, 65534, 65535})
}

// walk goes through s twice, stops behind each of its numbers, and goes through it again.
func walk(t *testing.T, s iter.Seq[uint16], want []uint16) {
	t.Helper()
	for range 2 {
		list(t, slices.Collect(s), want, "All")
	}
	for n := 1; n <= len(want); n++ {
		var got []uint16
		s(func(v uint16) bool {
			got = append(got, v)
			return len(got) < n
		})
		list(t, got, want[:n], "All, stopped behind", n)
	}
	list(t, slices.Collect(s), want, "All, behind those that were stopped")
}

func TestScript(t *testing.T) {
	for seed := range uint64(8) {
		number := numbers(seed)
		// near is a number in or about few words, at both ends and in the middle, so that many calls meet.
		near := func() uint16 { return uint16(32768*number(3) + number(300) - 150) }
		b, x := bitmap.New(), &table{}
		for n := range 2500 {
			v := near()
			to := v + uint16(number(140)-10)
			switch number(8) {
			case 0, 1, 2:
				same(t, b.Add(v), x.fill(v, v, true) == 1, "Add", v)
			case 3, 4:
				same(t, b.Drop(v), x.fill(v, v, false) == 1, "Drop", v)
			case 5:
				same(t, b.Fill(v, to), x.fill(v, to, true), "Fill", v, to)
			case 6:
				same(t, b.Wipe(v, to), x.fill(v, to, false), "Wipe", v, to)
			case 7:
				to = near()
				if number(9) == 0 {
					same(t, b.Fill(v, to), x.fill(v, to, true), "Fill", v, to)
				} else {
					same(t, b.Wipe(v, to), x.fill(v, to, false), "Wipe", v, to)
				}
			}
			for _, w := range []uint16{v - 1, v, v + 1, to, to + 1} {
				same(t, b.Has(w), x[w], "Has", w, n)
			}
			if n%50 == 0 {
				l := x.list()
				has(t, b, l, "script", seed, n)
				asked(t, b, l, seed, n)
			}
		}
		has(t, b, x.list(), "behind a script", seed)
	}
}

func TestCopy(t *testing.T) {
	for i, l := range samples() {
		b := bitmap.Of(l)
		c, d := b.Copy(), b.Copy()
		same(t, c != nil && c != b && c != d, true, "Copy", i)
		has(t, c, l, "Copy", i)
		asked(t, c, l, i)
		c.Fill(0, 65535)
		has(t, b, l, "the first behind a change of the copy", i)
		has(t, d, l, "another copy", i)
		b.Wipe(0, 65535)
		has(t, c, steps(0, 65536, 1), "the copy behind a change of the first", i)
		has(t, d, l, "another copy behind a change of the first", i)
		e := d.Copy()
		same(t, d.Add(7), !slices.Contains(l, 7), "Add", i)
		has(t, e, l, "the copy of a copy", i)
	}
}

// P7.2

// having are the numbers that as many lists have as are wanted.
func having(wanted func(n int) bool, l ...[]uint16) []uint16 {
	var have [1 << 16]int
	for _, x := range l {
		for _, v := range x {
			have[v]++
		}
	}
	var r []uint16
	for v, n := range have {
		if wanted(n) {
			r = append(r, uint16(v))
		}
	}
	return r
}

func anyOf(l ...[]uint16) []uint16 { return having(func(n int) bool { return n > 0 }, l...) }

func allOf(l ...[]uint16) []uint16 {
	return having(func(n int) bool { return n > 0 && n == len(l) }, l...)
}

func bitmaps(l ...[]uint16) []*bitmap.Bitmap {
	var r []*bitmap.Bitmap
	for _, x := range l {
		r = append(r, bitmap.Of(x))
	}
	return r
}

func joins() []func(...*bitmap.Bitmap) *bitmap.Bitmap {
	return []func(...*bitmap.Bitmap) *bitmap.Bitmap{bitmap.Or, bitmap.And}
}

func TestJoinsOfTwo(t *testing.T) {
	one := func(n int) bool { return n == 1 }
	l := samples()
	kept := bitmaps(l...)
	for i, a := range l {
		for j, b := range l {
			both := allOf(a, b)
			has(t, bitmap.Or(kept[i], kept[j]), anyOf(a, b), "Or", i, j)
			has(t, bitmap.And(kept[i], kept[j]), both, "And", i, j)
			has(t, bitmap.Less(kept[i], kept[j]), having(one, a, both), "Less", i, j)
			has(t, bitmap.Xor(kept[i], kept[j]), having(one, a, b), "Xor", i, j)
		}
	}
	for i, b := range kept {
		has(t, b, l[i], "what was handed in", i)
	}
}

func TestOneTwice(t *testing.T) {
	for i, l := range samples() {
		b := bitmap.Of(l)
		for _, f := range joins() {
			has(t, f(b), l, "of one", i)
			has(t, f(b, b), l, "of one twice", i)
			has(t, f(b, b, b, b, b), l, "of one five times", i)
		}
		has(t, bitmap.Less(b, b), nil, "Less of one twice", i)
		has(t, bitmap.Xor(b, b), nil, "Xor of one twice", i)
		has(t, b, l, "what was handed in", i)
	}
}

func TestJoinsOfMany(t *testing.T) {
	l := samples()
	kept := bitmaps(l...)
	number := numbers(9)
	for range 60 {
		var some [][]uint16
		var handed []*bitmap.Bitmap
		// The dense ones are last: of others nothing is in all.
		least := number(2) * len(short())
		for range 1 + number(7) {
			i := least + number(len(l)-least)
			some = append(some, l[i])
			handed = append(handed, kept[i])
		}
		has(t, bitmap.Or(handed...), anyOf(some...), "Or of many")
		has(t, bitmap.And(handed...), allOf(some...), "And of many")
	}
	every := bitmaps([]uint16{1, 2, 3, 4}, []uint16{2, 4, 6, 65535}, []uint16{0, 3, 4, 65535})
	for _, p := range [][]int{{0, 1, 2}, {0, 2, 1}, {1, 0, 2}, {1, 2, 0}, {2, 0, 1}, {2, 1, 0}} {
		has(t, bitmap.Or(every[p[0]], every[p[1]], every[p[2]]), []uint16{0, 1, 2, 3, 4, 6, 65535}, "Or of three")
		has(t, bitmap.And(every[p[0]], every[p[1]], every[p[2]]), []uint16{4}, "And of three")
	}
}

func TestJoinsOfNone(t *testing.T) {
	for _, l := range [][]*bitmap.Bitmap{nil, {}, {nil}, {nil, nil}, {bitmap.New()}, {bitmap.New(), nil}} {
		for _, f := range joins() {
			b := f(l...)
			same(t, b != nil, true, "of none", len(l))
			has(t, b, nil, "of none", len(l))
			same(t, b.Add(65535), true, "Add to what none has")
			has(t, b, []uint16{65535}, "Add to what none has")
			has(t, f(l...), nil, "of none, again", len(l))
		}
	}
}

func TestJoinsWithNil(t *testing.T) {
	for i, l := range samples() {
		b := bitmap.Of(l)
		has(t, bitmap.Or(nil, b), l, "Or of nil and one", i)
		has(t, bitmap.Or(b, nil), l, "Or of one and nil", i)
		has(t, bitmap.Or(nil, b, nil, nil), l, "Or of one and nil ones", i)
		has(t, bitmap.And(nil, b), nil, "And of nil and one", i)
		has(t, bitmap.And(b, nil), nil, "And of one and nil", i)
		has(t, bitmap.And(b, b, nil), nil, "And of one, one and nil", i)
		has(t, bitmap.And(b, nil, b), nil, "And of one, nil and one", i)
		has(t, bitmap.Less(nil, b), nil, "Less of nil and one", i)
		has(t, bitmap.Less(b, nil), l, "Less of one and nil", i)
		has(t, bitmap.Xor(nil, b), l, "Xor of nil and one", i)
		has(t, bitmap.Xor(b, nil), l, "Xor of one and nil", i)
		has(t, b, l, "what was handed in", i)
	}
	for _, f := range []func(a, b *bitmap.Bitmap) *bitmap.Bitmap{bitmap.Less, bitmap.Xor} {
		b := f(nil, nil)
		same(t, b != nil, true, "of nil and nil")
		has(t, b, nil, "of nil and nil")
		same(t, b.Fill(0, 65535), 65536, "Fill of what is of nil and nil")
	}
}

// TestJoinsAreNew: answers go their own way, and what was handed in goes its own.
func TestJoinsAreNew(t *testing.T) {
	x, y := []uint16{0, 1, 64, 65535}, []uint16{1, 2, 64}
	for what, f := range map[string]func(a, b *bitmap.Bitmap) *bitmap.Bitmap{
		"Or":               func(a, b *bitmap.Bitmap) *bitmap.Bitmap { return bitmap.Or(a, b) },
		"Or of one":        func(a, b *bitmap.Bitmap) *bitmap.Bitmap { return bitmap.Or(a) },
		"Or of one twice":  func(a, b *bitmap.Bitmap) *bitmap.Bitmap { return bitmap.Or(b, b) },
		"Or with nil":      func(a, b *bitmap.Bitmap) *bitmap.Bitmap { return bitmap.Or(nil, a, nil) },
		"And":              func(a, b *bitmap.Bitmap) *bitmap.Bitmap { return bitmap.And(a, b) },
		"And of one":       func(a, b *bitmap.Bitmap) *bitmap.Bitmap { return bitmap.And(b) },
		"And of one twice": func(a, b *bitmap.Bitmap) *bitmap.Bitmap { return bitmap.And(a, a) },
		"Less":             func(a, b *bitmap.Bitmap) *bitmap.Bitmap { return bitmap.Less(a, b) },
		"Less with nil":    func(a, b *bitmap.Bitmap) *bitmap.Bitmap { return bitmap.Less(a, nil) },
		"Xor":              func(a, b *bitmap.Bitmap) *bitmap.Bitmap { return bitmap.Xor(a, b) },
		"Xor with nil":     func(a, b *bitmap.Bitmap) *bitmap.Bitmap { return bitmap.Xor(nil, b) },
	} {
		a, b := bitmap.Of(x), bitmap.Of(y)
		one, other := f(a, b), f(a, b)
		same(t, one != a && one != b && one != other, true, what)
		want := slices.Collect(one.All())
		has(t, other, want, what+", again")
		one.Fill(0, 65535)
		one.Drop(1)
		has(t, a, x, what+": the first behind a change of the answer")
		has(t, b, y, what+": the second behind a change of the answer")
		has(t, other, want, what+": another answer")
		a.Fill(0, 65535)
		b.Wipe(0, 65535)
		has(t, other, want, what+": the answer behind a change of what was handed in")
	}
}

func TestListOfBitmapsStays(t *testing.T) {
	a, b := bitmap.Of([]uint16{1, 5}), bitmap.Of([]uint16{5, 9})
	for _, f := range joins() {
		was := []*bitmap.Bitmap{b, nil, a, b, nil, a}
		l := slices.Clone(was)
		for n := range 5 {
			f(l[:n]...)
			same(t, slices.Equal(l, was), true, "the list handed in", n)
		}
		l = []*bitmap.Bitmap{a, b}
		got := f(l...)
		want := slices.Collect(got.All())
		clear(l)
		has(t, got, want, "the answer behind a change of what was handed in")
	}
}

func TestNil(t *testing.T) {
	var b *bitmap.Bitmap
	for _, v := range edges() {
		same(t, b.Add(v), false, "nil Add", v)
		same(t, b.Drop(v), false, "nil Drop", v)
		for _, to := range edges() {
			same(t, b.Fill(v, to), 0, "nil Fill", v, to)
			same(t, b.Wipe(v, to), 0, "nil Wipe", v, to)
		}
	}
	has(t, b, nil, "nil")
	asked(t, b, nil)
	walk(t, b.All(), nil)
	c, d := b.Copy(), b.Copy()
	same(t, c != nil && d != nil && c != d, true, "nil Copy")
	has(t, c, nil, "nil Copy")
	same(t, c.Add(0), true, "Add to nil's Copy")
	same(t, c.Fill(65535, 65535), 1, "Fill of nil's Copy")
	has(t, c, []uint16{0, 65535}, "nil's Copy")
	has(t, d, nil, "another one")
	has(t, b, nil, "nil")
}

func TestExamples(t *testing.T) {
	b := bitmap.New()
	same(t, b.Fill(3, 9), 7, "Fill")
	same(t, b.Drop(5), true, "Drop")
	same(t, b.Len(), 6, "Len")
	same(t, b.Runs(), 2, "Runs")
	v, ok := b.Next(5)
	found(t, v, ok, []uint16{6}, "Next")
}
