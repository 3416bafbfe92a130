package box_test

import (
	"math"
	"slices"
	"testing"

	"stepstone/box"
)

func same[T comparable](t *testing.T, got, want T, what string, about ...any) {
	t.Helper()
	if got != want {
		t.Fatalf("%s %v: %v, not %v", what, about, got, want)
	}
}

// list holds lists against each other; long ones aren't told.
func list(t *testing.T, got, want []uint16, what string, about ...any) {
	t.Helper()
	if !slices.Equal(got, want) {
		t.Fatalf("%s %v: %v (%d), not %v (%d)", what, about, got[:min(len(got), 40)], len(got), want[:min(len(want), 40)], len(want))
	}
}

// found holds what Next, Prev and Select answer against a list of one number, or of none.
func found(t *testing.T, v uint16, ok bool, want []uint16, what string, about ...any) {
	t.Helper()
	if len(want) == 0 {
		same(t, v, 0, what+" beside false", about...)
		same(t, ok, false, what, about...)
		return
	}
	same(t, ok, true, what, about...)
	same(t, v, want[0], what, about...)
}

// numbers answers a function that tells numbers below n, on and on, by the seed.
func numbers(seed uint64) func(n int) int {
	return func(n int) int {
		seed = seed*6364136223846793005 + 1442695040888963407
		return int(seed >> 33 % uint64(n))
	}
}

func shuffled[T any](l []T, seed uint64) []T {
	number := numbers(seed)
	r := slices.Clone(l)
	for i := range r {
		j := i + number(len(r)-i)
		r[i], r[j] = r[j], r[i]
	}
	return r
}

// table is the plain thing that a box is held against.
type table [1 << 16]bool

func tableOf(l []uint16) *table {
	var x table
	for _, v := range l {
		x[v] = true
	}
	return &x
}

func (x *table) list() []uint16 {
	var l []uint16
	for v, is := range x {
		if is {
			l = append(l, uint16(v))
		}
	}
	return l
}

// fill makes all from from up to to so: how many were not.
func (x *table) fill(from, to uint16, so bool) int {
	n := 0
	for v := int(from); v <= int(to); v++ {
		if x[v] != so {
			x[v] = so
			n++
		}
	}
	return n
}

// steps is from, from + by .. below to.
func steps(from, to, by int) []uint16 {
	var l []uint16
	for v := from; v < to; v += by {
		l = append(l, uint16(v))
	}
	return l
}

// chosen is the numbers below to to each of which one of so many is.
func chosen(to, of int, seed uint64) []uint16 {
	number := numbers(seed)
	var l []uint16
	for v := range to {
		if number(of) == 0 {
			l = append(l, uint16(v))
		}
	}
	return l
}

// blocks is n runs of so many numbers, one number apart.
func blocks(n, size int) []uint16 {
	var l []uint16
	for i := range n {
		from := i * (size + 1)
		l = append(l, steps(from, from+size, 1)...)
	}
	return l
}

func short() [][]uint16 {
	return [][]uint16{
		nil, {}, {0}, {1}, {65534}, {65535}, {0, 1}, {0, 65535}, {65534, 65535}, {0, 1, 2}, {65533, 65534, 65535}, {3, 4, 6, 7, 8, 9}, {3, 4, 5, 7, 8, 9}, {63, 64}, {255, 256, 257}, {32767, 32768},
		steps(100, 140, 1), steps(0, 40, 2), steps(0, 65536, 4369), chosen(300, 3, 1), blocks(5, 2), blocks(5, 3),
	}
}

func samples() [][]uint16 {
	return append(short(),
		steps(0, 4095, 1), steps(0, 4096, 1), steps(0, 4097, 1), steps(61440, 65536, 1), steps(61439, 65536, 1), steps(0, 8190, 2), steps(0, 8192, 2), steps(0, 8194, 2), blocks(2048, 2), blocks(2048, 3),
		blocks(511, 9), blocks(512, 9), blocks(513, 9), append(blocks(511, 8), steps(50000, 50009, 1)...), blocks(512, 8),
		steps(0, 65536, 1), steps(1, 65536, 1), steps(0, 65535, 1), steps(0, 65536, 2), steps(1, 65536, 2), chosen(65536, 2, 3), chosen(65536, 40, 4), chosen(65536, 700, 5))
}

// runs is how many of l's numbers don't follow the one ahead.
func runs(l []uint16) int {
	n := 0
	for i, v := range l {
		if i == 0 || l[i-1]+1 != v {
			n++
		}
	}
	return n
}

// plain is the kind, and the cost, of a plain box that has l.
func plain(l []uint16) (kind, cost int) {
	if len(l) > 4096 {
		return 2, 1024
	}
	return 1, len(l)
}

// optimised is the kind, and the cost, of a box that has l behind Optimise.
func optimised(l []uint16) (kind, cost int) {
	kind, cost = plain(l)
	if asRuns := 2 * runs(l); asRuns < cost {
		return 3, asRuns
	}
	return kind, cost
}

// has holds a box against a list, and how it is kept against what is wanted.
func has(t *testing.T, b *box.Box, want []uint16, kept func([]uint16) (kind, cost int), what string, about ...any) {
	t.Helper()
	kind, cost := kept(want)
	same(t, b != nil, true, what, about...)
	same(t, b.Kind(), kind, what+": Kind", about...)
	same(t, b.Cost(), cost, what+": Cost", about...)
	same(t, b.Len(), len(want), what+": Len", about...)
	list(t, b.List(), want, what+": List", about...)
}

// edges are numbers at the ends, and where a bitmap's words begin.
func edges() []uint16 {
	return []uint16{0, 1, 2, 5, 63, 64, 255, 256, 4094, 4095, 4096, 4097, 32767, 32768, 65471, 65472, 65533, 65534, 65535}
}

// places are the edges, and what is about l's own numbers.
func places(l []uint16) []uint16 {
	p := edges()
	for i := 0; i < len(l); i += 1 + len(l)/12 {
		p = append(p, l[i]-1, l[i], l[i]+1)
	}
	return p
}

func pick(l []uint16, wanted func(uint16) bool) []uint16 {
	var r []uint16
	for _, v := range l {
		if wanted(v) {
			r = append(r, v)
		}
	}
	return r
}

func first(l []uint16) []uint16 { return l[:min(1, len(l))] }

func last(l []uint16) []uint16 { return l[max(0, len(l)-1):] }

// asked holds what b tells of single numbers against a list.
func asked(t *testing.T, b *box.Box, want []uint16, about ...any) {
	t.Helper()
	for _, v := range places(want) {
		below, upTo := 0, 0
		for _, w := range want {
			if w < v {
				below++
			}
			if w <= v {
				upTo++
			}
		}
		same(t, b.Has(v), upTo > below, "Has", v, about)
		same(t, b.Rank(v), below, "Rank", v, about)
		n, ok := b.Next(v)
		found(t, n, ok, first(want[below:]), "Next", v, about)
		n, ok = b.Prev(v)
		found(t, n, ok, last(want[:upTo]), "Prev", v, about)
	}
	n := len(want)
	for _, k := range []int{math.MinInt, -1 << 32, -65536, -2, -1, 0, 1, 63, 64, n / 3, n / 2, n - 2, n - 1, n, n + 1, 65535, 65536, 65537, 1 << 32, math.MaxInt} {
		var w []uint16
		if k >= 0 && k < n {
			w = want[k : k+1]
		}
		v, ok := b.Select(k)
		found(t, v, ok, w, "Select", k, about)
	}
}

// ways are a plain box, and one behind Optimise.
func ways() map[string]func(l []uint16) (*box.Box, func([]uint16) (kind, cost int)) {
	return map[string]func(l []uint16) (*box.Box, func([]uint16) (kind, cost int)){
		"plain": func(l []uint16) (*box.Box, func([]uint16) (kind, cost int)) { return box.Of(l), plain },
		"optimised": func(l []uint16) (*box.Box, func([]uint16) (kind, cost int)) {
			b := box.Of(l)
			b.Optimise()
			return b, optimised
		},
	}
}

// P9.1

func TestConstants(t *testing.T) {
	same(t, box.Array, 1, "Array")
	same(t, box.Bitmap, 2, "Bitmap")
	same(t, box.Runs, 3, "Runs")
	same(t, box.Most, 4096, "Most")
}

func TestNew(t *testing.T) {
	a, b := box.New(), box.New()
	same(t, a != b, true, "New")
	has(t, a, nil, plain, "New")
	asked(t, a, nil)
	same(t, a.Fill(3, 9), 7, "Fill")
	has(t, b, nil, plain, "another one")
	same(t, b.Add(65535), true, "Add")
	has(t, a, steps(3, 10, 1), plain, "the first one")
}

func TestOf(t *testing.T) {
	has(t, box.Of(nil), nil, plain, "Of nil")
	has(t, box.Of([]uint16{}), nil, plain, "Of none")
	has(t, box.Of([]uint16{5, 2, 5}), []uint16{2, 5}, plain, "Of 5, 2, 5")
	has(t, box.Of([]uint16{65535, 0, 65535, 0}), []uint16{0, 65535}, plain, "Of the ends")
	for i, l := range samples() {
		has(t, box.Of(l), l, plain, "Of", i)
		has(t, box.Of(shuffled(l, 1)), l, plain, "Of mixed ones", i)
		// Twice 4096 numbers are 4096.
		has(t, box.Of(shuffled(slices.Concat(l, l, last(l)), 2)), l, plain, "Of mixed ones, twice", i)
	}
}

func TestAsked(t *testing.T) {
	for what, made := range ways() {
		for i, l := range samples() {
			b, kept := made(l)
			asked(t, b, l, what, i)
			has(t, b, l, kept, "behind what was asked", what, i)
		}
	}
}

func TestAddDrop(t *testing.T) {
	for what, made := range ways() {
		for i, l := range samples() {
			for _, v := range places(l) {
				there := slices.Contains(l, v)
				without := pick(l, func(w uint16) bool { return w != v })
				with := tableOf(append(slices.Clone(without), v)).list()
				b, kept := made(l)
				same(t, b.Add(v), !there, "Add", what, i, v)
				// Changed by nothing, it stays as it was kept.
				if there {
					has(t, b, l, kept, "Add", what, i, v)
				} else {
					has(t, b, with, plain, "Add", what, i, v)
				}
				b, kept = made(l)
				same(t, b.Drop(v), there, "Drop", what, i, v)
				if there {
					has(t, b, without, plain, "Drop", what, i, v)
				} else {
					has(t, b, l, kept, "Drop", what, i, v)
				}
			}
		}
	}
}

func TestFillWipe(t *testing.T) {
	ranges := [][2]uint16{
		{0, 0}, {65535, 65535}, {0, 65535}, {65535, 0}, {1, 0}, {4096, 4095}, {0, 4095}, {0, 4096}, {1, 4096}, {61440, 65535}, {61439, 65535}, {64, 65534}, {7, 30000}, {4095, 4095}, {4096, 4096}, {5, 5}, {20, 30},
	}
	for what, made := range ways() {
		for i, l := range samples() {
			for _, r := range ranges {
				for _, so := range []bool{true, false} {
					x := tableOf(l)
					n := x.fill(r[0], r[1], so)
					b, kept := made(l)
					f := b.Wipe
					if so {
						f = b.Fill
					}
					same(t, f(r[0], r[1]), n, "Fill or Wipe", so, what, i, r)
					if n > 0 {
						kept = plain
					}
					has(t, b, x.list(), kept, "Fill or Wipe", so, what, i, r)
					same(t, f(r[0], r[1]), 0, "Fill or Wipe again", so, what, i, r)
					has(t, b, x.list(), kept, "Fill or Wipe again", so, what, i, r)
				}
			}
		}
	}
}

func TestFillWipeEnds(t *testing.T) {
	b := box.New()
	same(t, b.Fill(65535, 0), 0, "Fill from above to")
	same(t, b.Fill(9, 8), 0, "Fill from above to")
	has(t, b, nil, plain, "behind Fill from above to")
	same(t, b.Fill(0, 0), 1, "Fill of the least")
	same(t, b.Fill(65535, 65535), 1, "Fill of the greatest")
	has(t, b, []uint16{0, 65535}, plain, "behind Fill of the ends")
	same(t, b.Fill(0, 65535), 65534, "Fill of the others")
	has(t, b, steps(0, 65536, 1), plain, "behind Fill of all")
	same(t, b.Optimise(), true, "Optimise")
	same(t, b.Wipe(65535, 0), 0, "Wipe from above to")
	same(t, b.Wipe(1, 0), 0, "Wipe from above to")
	has(t, b, steps(0, 65536, 1), optimised, "behind Wipe from above to")
	same(t, b.Wipe(0, 0), 1, "Wipe of the least")
	same(t, b.Wipe(65535, 65535), 1, "Wipe of the greatest")
	has(t, b, steps(1, 65535, 1), plain, "behind Wipe of the ends")
	same(t, b.Wipe(0, 65535), 65534, "Wipe of the others")
	has(t, b, nil, plain, "behind Wipe of all")
}

// TestMost goes over the edge of 4096 numbers by each call that may, there and back.
func TestMost(t *testing.T) {
	for _, from := range []int{0, 1000, 61439} {
		few, many := steps(from, from+4096, 1), steps(from, from+4097, 1)
		behind := uint16(from + 4096)
		b := box.Of(few)
		for range 2 {
			has(t, b, few, plain, "4096")
			same(t, b.Kind(), box.Array, "4096")
			same(t, b.Add(behind), true, "Add")
			has(t, b, many, plain, "4097")
			same(t, b.Kind(), box.Bitmap, "4097")
			same(t, b.Drop(behind), true, "Drop")
			has(t, b, few, plain, "4096 again")
			same(t, b.Fill(behind-1, behind), 1, "Fill")
			has(t, b, many, plain, "4097 again")
			same(t, b.Wipe(behind, 65535), 1, "Wipe")
			has(t, b, few, plain, "4096 again")
			same(t, b.Optimise(), true, "Optimise of 4096")
			has(t, b, few, optimised, "4096 as runs")
			same(t, b.Add(behind), true, "Add to runs")
			has(t, b, many, plain, "4097 again")
			same(t, b.Optimise(), true, "Optimise of 4097")
			has(t, b, many, optimised, "4097 as runs")
			same(t, b.Plain(), true, "Plain of 4097")
			has(t, b, many, plain, "4097 again")
			same(t, b.Optimise(), true, "Optimise of 4097")
			same(t, b.Drop(behind), true, "Drop of runs")
			has(t, b, few, plain, "4096 again")
		}
	}
}

func TestOptimise(t *testing.T) {
	for _, x := range []struct {
		of         []uint16
		kind, cost int
		what       string
	}{
		{nil, 1, 0, "none"}, {[]uint16{7}, 1, 1, "one"}, {[]uint16{0, 1}, 1, 2, "as much"}, {[]uint16{65534, 65535}, 1, 2, "as much"}, {[]uint16{0, 2}, 1, 2, "more"},
		{[]uint16{0, 1, 2}, 3, 2, "less"}, {[]uint16{65533, 65534, 65535}, 3, 2, "less"}, {[]uint16{0, 1, 65535}, 1, 3, "more"}, {[]uint16{0, 1, 65534, 65535}, 1, 4, "as much"}, {[]uint16{0, 1, 2, 65534, 65535}, 3, 4, "less"},
		{steps(0, 4096, 1), 3, 2, "less"}, {steps(0, 8192, 2), 1, 4096, "more"}, {blocks(2048, 2), 1, 4096, "as much"}, {blocks(2000, 2), 1, 4000, "as much"}, {append(blocks(2000, 2), 65535), 1, 4001, "more"}, {append(blocks(2000, 2), 6000, 6001, 6002), 3, 4002, "less"},
		{steps(0, 4097, 1), 3, 2, "less"}, {steps(0, 65536, 1), 3, 2, "less"}, {blocks(511, 9), 3, 1022, "less"}, {blocks(512, 9), 2, 1024, "as much"}, {blocks(513, 9), 2, 1024, "more"}, {steps(0, 65536, 2), 2, 1024, "more"},
		{append(steps(0, 4096, 1), 9000), 3, 4, "less"},
	} {
		b := box.Of(x.of)
		has(t, b, x.of, plain, "ahead of Optimise", x.what, len(x.of))
		same(t, b.Optimise(), x.kind == 3, "Optimise", x.what, len(x.of))
		has(t, b, x.of, func([]uint16) (int, int) { return x.kind, x.cost }, "Optimise", x.what, len(x.of))
		same(t, b.Optimise(), false, "Optimise again", x.what, len(x.of))
		has(t, b, x.of, func([]uint16) (int, int) { return x.kind, x.cost }, "Optimise again", x.what, len(x.of))
		same(t, b.Plain(), x.kind == 3, "Plain", x.what, len(x.of))
		has(t, b, x.of, plain, "Plain", x.what, len(x.of))
		same(t, b.Plain(), false, "Plain again", x.what, len(x.of))
		has(t, b, x.of, plain, "Plain again", x.what, len(x.of))
	}
}

func TestOptimiseOfAll(t *testing.T) {
	for i, l := range samples() {
		b := box.Of(l)
		was := b.Kind()
		same(t, b.Plain(), false, "Plain of a new one", i)
		changed := b.Optimise()
		same(t, changed, b.Kind() != was, "Optimise", i)
		has(t, b, l, optimised, "Optimise", i)
		asked(t, b, l, "Optimise", i)
		same(t, b.Optimise(), false, "Optimise again", i)
		same(t, b.Plain(), changed, "Plain", i)
		has(t, b, l, plain, "Plain", i)
		asked(t, b, l, "Plain", i)
	}
}

func TestCopy(t *testing.T) {
	every := steps(0, 65536, 1)
	for what, made := range ways() {
		for i, l := range samples() {
			b, kept := made(l)
			c, d := b.Copy(), b.Copy()
			same(t, c != b && c != d, true, "Copy", what, i)
			has(t, c, l, kept, "Copy", what, i)
			asked(t, c, l, what, i)
			c.Fill(0, 65535)
			has(t, b, l, kept, "the first behind a change of the copy", what, i)
			has(t, d, l, kept, "another copy", what, i)
			b.Wipe(0, 65535)
			has(t, c, every, func([]uint16) (int, int) { return c.Kind(), c.Cost() }, "the copy behind a change of the first", what, i)
			has(t, d, l, kept, "another copy behind a change of the first", what, i)
			e := d.Copy()
			same(t, d.Add(7), !slices.Contains(l, 7), "Add", what, i)
			same(t, d.Drop(7), true, "Drop", what, i)
			has(t, e, l, kept, "the copy of a copy", what, i)
			e.Plain()
			f := e.Copy()
			f.Optimise()
			has(t, e, l, plain, "the first behind Optimise of the copy", what, i)
			has(t, f, l, optimised, "the copy behind Optimise", what, i)
			e.Optimise()
			f.Plain()
			has(t, e, l, optimised, "the first behind Plain of the copy", what, i)
			has(t, f, l, plain, "the copy behind Plain", what, i)
		}
	}
}

func TestCosts(t *testing.T) {
	same(t, box.Costs(), 0, "Costs of none")
	same(t, box.Costs(nil...), 0, "Costs of nil")
	same(t, box.Costs([]*box.Box{}...), 0, "Costs of none")
	same(t, box.Costs(nil, nil), 0, "Costs of nil boxes")
	same(t, box.Costs(box.New(), nil, box.New()), 0, "Costs of empty boxes")
	a, m, r := box.Of([]uint16{2, 5, 9}), box.Of(steps(0, 65536, 2)), box.Of(steps(0, 65536, 1))
	r.Optimise()
	same(t, box.Costs(a), 3, "Costs of an array")
	same(t, box.Costs(m), 1024, "Costs of a bitmap")
	same(t, box.Costs(r), 2, "Costs of runs")
	same(t, box.Costs(a, m, r), 1029, "Costs of all three")
	same(t, box.Costs(nil, r, nil, a, m, nil), 1029, "Costs of all three, and nil ones")
	same(t, box.Costs(m, a, m, m), 3075, "Costs of one three times")
	number := numbers(4)
	l := samples()
	for range 40 {
		var some []*box.Box
		want := 0
		for range number(9) {
			x := l[number(len(l))]
			b, _ := ways()["plain"](x)
			_, cost := plain(x)
			if number(2) == 0 {
				b, _ = ways()["optimised"](x)
				_, cost = optimised(x)
			}
			if number(5) == 0 {
				b, cost = nil, 0
			}
			some, want = append(some, b), want+cost
		}
		was := slices.Clone(some)
		same(t, box.Costs(some...), want, "Costs")
		same(t, slices.Equal(some, was), true, "the boxes handed in")
	}
}

// TestScript changes a box on and on, with all that it answers, its kind and its cost behind each call; now and then a copy goes on, and the box that was left must stay.
func TestScript(t *testing.T) {
	for seed := range uint64(8) {
		number := numbers(seed)
		b, x, kept := box.New(), &table{}, plain
		left, leftList, leftKept := b.Copy(), x.list(), kept
		for n := range 500 {
			from := uint16(number(3)*32768 + number(6000) - 3000)
			// Either few numbers, or so many that 4096 is near, or any range, often from above to.
			to := from + []uint16{0, uint16(number(40)), uint16(number(4300)), uint16(number(1 << 16))}[number(4)]
			wasKind, _ := kept(x.list())
			changed := 0
			switch c := number(14); c {
			case 0, 1:
				changed = x.fill(from, from, true)
				same(t, b.Add(from), changed == 1, "Add", seed, n, from)
			case 2, 3:
				changed = x.fill(from, from, false)
				same(t, b.Drop(from), changed == 1, "Drop", seed, n, from)
			case 4, 5, 6:
				changed = x.fill(from, to, true)
				same(t, b.Fill(from, to), changed, "Fill", seed, n, from, to)
			case 7, 8, 9:
				changed = x.fill(from, to, false)
				same(t, b.Wipe(from, to), changed, "Wipe", seed, n, from, to)
			case 10, 11:
				kept = optimised
				kind, _ := kept(x.list())
				same(t, b.Optimise(), kind != wasKind, "Optimise", seed, n)
			case 12:
				kept = plain
				kind, _ := kept(x.list())
				same(t, b.Plain(), kind != wasKind, "Plain", seed, n)
			case 13:
				has(t, left, leftList, leftKept, "what was left", seed, n)
				left, leftList, leftKept = b, x.list(), kept
				b = b.Copy()
			}
			if changed > 0 {
				kept = plain
			}
			has(t, b, x.list(), kept, "script", seed, n, from, to)
			if n%25 == 0 {
				asked(t, b, x.list(), seed, n)
			}
		}
		has(t, left, leftList, leftKept, "what was left", seed)
	}
}

// The rule on memory.

func whole(l []uint16) []uint16 { return l[:cap(l)] }

func overwrite(l []uint16) {
	for i, v := range whole(l) {
		whole(l)[i] = ^v
	}
}

func TestListHandedIn(t *testing.T) {
	for i, l := range samples() {
		for _, x := range [][]uint16{l, shuffled(l, 8), slices.Concat(l, l)} {
			handed := slices.Concat(x, []uint16{77, 4, 65535, 0, 4})[:len(x)]
			was := slices.Clone(whole(handed))
			b, c := box.Of(handed), box.Of(handed)
			list(t, whole(handed), was, "what was handed in", i)
			c.Optimise()
			overwrite(handed)
			has(t, b, l, plain, "behind a change of what was handed in", i)
			has(t, c, l, optimised, "optimised, behind a change of what was handed in", i)
			was = slices.Clone(whole(handed))
			b.Add(77)
			b.Drop(0)
			b.Fill(0, 65535)
			b.Wipe(5, 65535)
			list(t, whole(handed), was, "what was handed in, behind a change of the box", i)
		}
	}
}

func TestListIsNew(t *testing.T) {
	for what, made := range ways() {
		for i, l := range samples() {
			b, kept := made(l)
			one, other := b.List(), b.List()
			overwrite(one)
			list(t, other, l, "another List", what, i)
			has(t, b, l, kept, "behind a change of what was answered", what, i)
			asked(t, b, l, "behind a change of what was answered", what, i)
			c := b.Copy()
			b.Add(3)
			b.Drop(3)
			b.Wipe(60000, 65535)
			b.Fill(0, 65535)
			list(t, other, l, "List, behind a change of the box", what, i)
			has(t, c, l, kept, "the copy", what, i)
		}
	}
}

// TestSpareRoom: what is put into the spare room of an answer isn't seen by the box, which grows by one.
func TestSpareRoom(t *testing.T) {
	b := box.New()
	var want []uint16
	for v := uint16(0); v < 300; v += 3 {
		spoilt := b.List()
		same(t, b.Add(v), true, "Add", v)
		overwrite(spoilt)
		spoilt = b.List()
		overwrite(append(spoilt, 9, 9, 9))
		want = append(want, v)
		has(t, b, want, plain, "behind changes of spare room", v)
	}
}

// P9.2

func TestNil(t *testing.T) {
	var b *box.Box
	for _, v := range edges() {
		same(t, b.Add(v), false, "nil Add", v)
		same(t, b.Drop(v), false, "nil Drop", v)
		for _, to := range edges() {
			same(t, b.Fill(v, to), 0, "nil Fill", v, to)
			same(t, b.Wipe(v, to), 0, "nil Wipe", v, to)
		}
	}
	same(t, b.Optimise(), false, "nil Optimise")
	same(t, b.Plain(), false, "nil Plain")
	same(t, b.Copy() == nil, true, "nil Copy")
	same(t, b.Kind(), 0, "nil Kind")
	same(t, b.Cost(), 0, "nil Cost")
	same(t, b.Len(), 0, "nil Len")
	list(t, b.List(), nil, "nil List")
	asked(t, b, nil, "nil")
	same(t, box.Costs(b, box.Of([]uint16{5}), b), 1, "Costs with nil")
}

func TestExamples(t *testing.T) {
	b := box.New()
	same(t, b.Fill(0, 4095), 4096, "Fill")
	same(t, b.Kind(), box.Array, "Kind")
	same(t, b.Add(9000), true, "Add")
	same(t, b.Kind(), box.Bitmap, "Kind")
	same(t, b.Optimise(), true, "Optimise")
	same(t, b.Kind(), box.Runs, "Kind")
	same(t, b.Cost(), 4, "Cost")
}
