package runs_test

import (
	"math"
	"slices"
	"testing"

	"stepstone/runs"
)

func same[T comparable](t *testing.T, got, want T, what string, about ...any) {
	t.Helper()
	if got != want {
		t.Fatalf("%s %v: %v, not %v", what, about, got, want)
	}
}

// list holds lists against each other; long ones aren't told.
func list[T comparable](t *testing.T, got, want []T, what string, about ...any) {
	t.Helper()
	if !slices.Equal(got, want) {
		t.Fatalf("%s %v: %v (%d), not %v (%d)", what, about, got[:min(len(got), 40)], len(got), want[:min(len(want), 40)], len(want))
	}
}

// found holds what Next, Prev and Select answer against a list of one number, or of none.
func found(t *testing.T, v uint16, ok bool, want []uint16, what string, about ...any) {
	t.Helper()
	if len(want) == 0 {
		same(t, v, 0, what+" beside false", about...)
		same(t, ok, false, what, about...)
		return
	}
	same(t, ok, true, what, about...)
	same(t, v, want[0], what, about...)
}

// numbers answers a function that tells numbers below n, on and on, by the seed.
func numbers(seed uint64) func(n int) int {
	return func(n int) int {
		seed = seed*6364136223846793005 + 1442695040888963407
		return int(seed >> 33 % uint64(n))
	}
}

func shuffled[T any](l []T, seed uint64) []T {
	number := numbers(seed)
	r := slices.Clone(l)
	for i := range r {
		j := i + number(len(r)-i)
		r[i], r[j] = r[j], r[i]
	}
	return r
}

// table is the plain thing that runs are held against.
type table [1 << 16]bool

func tableOf(l []uint16) *table {
	var x table
	x.put(true, l...)
	return &x
}

func (x *table) put(so bool, l ...uint16) {
	for _, v := range l {
		x[v] = so
	}
}

func (x *table) fill(from, to uint16, so bool) {
	for v := int(from); v <= int(to); v++ {
		x[v] = so
	}
}

func (x *table) list() []uint16 {
	var l []uint16
	for v, is := range x {
		if is {
			l = append(l, uint16(v))
		}
	}
	return l
}

// runs are as few as can be: one begins where the number ahead isn't, and ends where the number behind isn't.
func (x *table) runs() []runs.Run {
	var l []runs.Run
	for v, is := range x {
		if is && (v == 0 || !x[v-1]) {
			l = append(l, runs.Run{From: uint16(v)})
		}
		if is && (v == 65535 || !x[v+1]) {
			l[len(l)-1].To = uint16(v)
		}
	}
	return l
}

// ends are runs by their ends.
func ends(l ...uint16) []runs.Run {
	var r []runs.Run
	for i := 0; i < len(l); i += 2 {
		r = append(r, runs.Run{From: l[i], To: l[i+1]})
	}
	return r
}

// steps is from, from + by .. below to.
func steps(from, to, by int) []uint16 {
	var l []uint16
	for v := from; v < to; v += by {
		l = append(l, uint16(v))
	}
	return l
}

// chosen is the numbers below to to each of which one of so many is.
func chosen(to, of int, seed uint64) []uint16 {
	number := numbers(seed)
	var l []uint16
	for v := range to {
		if number(of) == 0 {
			l = append(l, uint16(v))
		}
	}
	return l
}

func short() [][]uint16 {
	return [][]uint16{
		nil, {}, {0}, {1}, {65534}, {65535}, {0, 1}, {0, 2}, {0, 65535}, {65534, 65535}, {65533, 65535}, {3, 4, 9}, {3, 4, 6, 7, 8, 9}, {3, 4, 7, 8},
		{0, 1, 2, 65533, 65534, 65535}, {255, 256, 257}, {32767, 32768}, steps(100, 140, 1), steps(0, 40, 2), steps(0, 65536, 4369),
		slices.Concat(steps(10, 30, 1), steps(31, 50, 1), steps(52, 60, 1)), chosen(300, 3, 1),
	}
}

func samples() [][]uint16 {
	return append(short(), steps(0, 65536, 1), steps(1, 65536, 1), steps(0, 65535, 1), steps(1, 65535, 1), steps(0, 65536, 2), steps(1, 65536, 2), steps(60000, 65536, 1),
		slices.Concat(steps(0, 30000, 1), steps(30001, 65536, 1)), chosen(65536, 2, 3), chosen(65536, 700, 4))
}

// places are the numbers about which runs are asked: the ends of all, and those about the runs' own ends.
func places(l []runs.Run) []uint16 {
	p := []uint16{0, 1, 2, 5, 255, 32767, 32768, 65533, 65534, 65535}
	for i := 0; i < len(l); i += 1 + len(l)/20 {
		p = append(p, l[i].From-1, l[i].From, l[i].From+1, l[i].To-1, l[i].To, l[i].To+1)
	}
	return p
}

// below is how many of l, which rises, are below v.
func below(l []uint16, v uint16) int {
	n := 0
	for n < len(l) && l[n] < v {
		n++
	}
	return n
}

func upTo(l []uint16, v uint16) int {
	n := 0
	for n < len(l) && l[n] <= v {
		n++
	}
	return n
}

func first(l []uint16) []uint16 { return l[:min(1, len(l))] }

func last(l []uint16) []uint16 { return l[max(0, len(l)-1):] }

// small calls f with each choice of the numbers low to low + 5, at both ends and between.
func small(f func(low int, l []uint16)) {
	for _, low := range []int{0, 1, 300, 65529, 65530} {
		for choice := range 1 << 6 {
			var l []uint16
			for i := range 6 {
				if choice>>i&1 == 1 {
					l = append(l, uint16(low+i))
				}
			}
			f(low, l)
		}
	}
}

// asked holds all that runs tell against a list.
func asked(t *testing.T, r []runs.Run, want []uint16, about ...any) {
	t.Helper()
	same(t, runs.Is(r), true, "Is", about...)
	list(t, runs.List(r), want, "List", about...)
	same(t, runs.Len(r), len(want), "Len", about...)
	for _, v := range places(r) {
		less, here := below(want, v), upTo(want, v)
		same(t, runs.Has(r, v), here > less, "Has", v, about)
		same(t, runs.Rank(r, v), less, "Rank", v, about)
		n, ok := runs.Next(r, v)
		found(t, n, ok, first(want[less:]), "Next", v, about)
		n, ok = runs.Prev(r, v)
		found(t, n, ok, last(want[:here]), "Prev", v, about)
	}
	n := len(want)
	for _, k := range []int{math.MinInt, math.MinInt + 1, -1 << 32, -65536, -2, -1, 0, 1, 2, n / 2, n - 2, n - 1, n, n + 1, 65535, 65536, 65537, 1 << 32, math.MaxInt - 1, math.MaxInt} {
		var w []uint16
		if k >= 0 && k < n {
			w = want[k : k+1]
		}
		v, ok := runs.Select(r, k)
		found(t, v, ok, w, "Select", k, about)
	}
}

// P8.1

func TestOf(t *testing.T) {
	list(t, runs.Of(nil), nil, "Of nil")
	list(t, runs.Of([]uint16{}), nil, "Of none")
	list(t, runs.Of([]uint16{5, 2, 5}), ends(2, 2, 5, 5), "Of 5, 2, 5")
	list(t, runs.Of([]uint16{4, 3, 9, 3}), ends(3, 4, 9, 9), "Of 4, 3, 9, 3")
	list(t, runs.Of([]uint16{7, 7, 7, 7}), ends(7, 7), "Of 7 four times")
	list(t, runs.Of([]uint16{65535, 0, 65535, 0}), ends(0, 0, 65535, 65535), "Of the ends")
	list(t, runs.Of([]uint16{9, 8, 7, 1, 0}), ends(0, 1, 7, 9), "Of falling ones")
	list(t, runs.Of([]uint16{256, 1, 255, 2}), ends(1, 2, 255, 256), "Of numbers whose bytes fall")
	for i, l := range samples() {
		want := tableOf(l).runs()
		list(t, runs.Of(l), want, "Of rising ones", i)
		for seed := range uint64(2) {
			list(t, runs.Of(shuffled(l, seed)), want, "Of mixed ones", i)
			list(t, runs.Of(shuffled(slices.Concat(l, l, last(l)), seed)), want, "Of mixed ones, twice", i)
		}
	}
}

func TestIs(t *testing.T) {
	for i, l := range samples() {
		same(t, runs.Is(tableOf(l).runs()), true, "Is", i)
	}
	for _, l := range [][]runs.Run{nil, {}, ends(0, 65535), ends(0, 0), ends(65535, 65535), ends(0, 0, 2, 2), ends(0, 65533, 65535, 65535), ends(0, 3, 5, 5), ends(1, 2, 4, 7, 9, 9, 65535, 65535)} {
		same(t, runs.Is(l), true, "Is", l)
	}
	for _, l := range [][]runs.Run{
		ends(2, 1), ends(65535, 0), ends(65535, 65534), ends(1, 0), ends(300, 44),
		ends(1, 2, 3, 4), ends(0, 0, 1, 1), ends(65534, 65534, 65535, 65535), ends(0, 65534, 65535, 65535),
		ends(1, 3, 3, 4), ends(1, 9, 3, 4), ends(1, 9, 1, 9), ends(1, 9, 3, 20), ends(0, 65535, 0, 65535), ends(0, 65535, 0, 0), ends(0, 65535, 1, 1), ends(9, 65535, 5, 5), ends(0, 65535, 65535, 65535),
		ends(5, 6, 1, 2), ends(5, 6, 0, 0), ends(7, 7, 5, 5), ends(65535, 65535, 0, 0),
		ends(5, 5, 9, 8), ends(5, 5, 8, 7, 9, 9), ends(5, 4, 9, 9), ends(1, 1, 65535, 4), ends(1, 2, 4, 4, 5, 5), ends(1, 2, 4, 4, 3, 3),
	} {
		same(t, runs.Is(l), false, "Is", l)
	}
}

// TestIsOfAll asks of all lists of up to three runs of few numbers.
func TestIsOfAll(t *testing.T) {
	for _, low := range []int{0, 65530} {
		var one []runs.Run
		for from := low; from < low+6; from++ {
			for to := low; to < low+6; to++ {
				one = append(one, runs.Run{From: uint16(from), To: uint16(to)})
			}
		}
		for _, a := range one {
			isA := a.From <= a.To
			same(t, runs.Is([]runs.Run{a}), isA, "Is", a)
			for _, b := range one {
				isB := isA && b.From <= b.To && int(b.From)-int(a.To) >= 2
				same(t, runs.Is([]runs.Run{a, b}), isB, "Is", a, b)
				for _, c := range one {
					isC := isB && c.From <= c.To && int(c.From)-int(b.To) >= 2
					same(t, runs.Is([]runs.Run{a, b, c}), isC, "Is", a, b, c)
				}
			}
		}
	}
}

func TestAsked(t *testing.T) {
	asked(t, nil, nil)
	asked(t, []runs.Run{}, nil)
	for i, l := range samples() {
		asked(t, tableOf(l).runs(), l, i)
	}
	small(func(low int, l []uint16) { asked(t, tableOf(l).runs(), l, low) })
}

func TestSelectOfAll(t *testing.T) {
	for i, l := range samples() {
		r := tableOf(l).runs()
		for k := 0; k < len(l); k += 1 + len(r)/50 {
			v, ok := runs.Select(r, k)
			found(t, v, ok, l[k:k+1], "Select", i, k)
		}
	}
}

func TestFillWipe(t *testing.T) {
	for i, l := range samples() {
		r := tableOf(l).runs()
		p := places(r)
		for j := 0; j < len(p); j += 1 + len(p)/24 {
			from := p[j]
			for _, to := range []uint16{from - 1, from, from + 1, from + 20, 0, 1, 9, 33000, 65534, 65535, p[len(p)/2], p[len(p)-1]} {
				filled, wiped := tableOf(l), tableOf(l)
				filled.fill(from, to, true)
				wiped.fill(from, to, false)
				list(t, runs.Fill(r, from, to), filled.runs(), "Fill", i, from, to)
				list(t, runs.Wipe(r, from, to), wiped.runs(), "Wipe", i, from, to)
			}
		}
	}
}

// TestFillWipeSmall goes through each range of few numbers, against each choice of them: those that touch, overlap, stand one number apart, lie within, and from above to.
func TestFillWipeSmall(t *testing.T) {
	small(func(low int, l []uint16) {
		r := runs.Of(l)
		near := steps(max(low-1, 0), min(low+7, 1<<16), 1)
		for _, from := range near {
			for _, to := range near {
				var filled, wiped []uint16
				for _, v := range near {
					here, there := slices.Contains(l, v), v >= from && v <= to
					if here || there {
						filled = append(filled, v)
					}
					if here && !there {
						wiped = append(wiped, v)
					}
				}
				got := runs.Fill(r, from, to)
				list(t, runs.List(got), filled, "Fill", l, from, to)
				same(t, runs.Is(got), true, "Fill", l, from, to)
				got = runs.Wipe(r, from, to)
				list(t, runs.List(got), wiped, "Wipe", l, from, to)
				same(t, runs.Is(got), true, "Wipe", l, from, to)
			}
		}
	})
}

func TestFillWipeEnds(t *testing.T) {
	for _, l := range [][]runs.Run{nil, {}, ends(5, 9), ends(0, 0, 65535, 65535), ends(0, 65535)} {
		for _, x := range [][2]uint16{{65535, 0}, {1, 0}, {7, 6}, {65535, 65534}, {10, 4}} {
			list(t, runs.Fill(l, x[0], x[1]), l, "Fill from above to", x)
			list(t, runs.Wipe(l, x[0], x[1]), l, "Wipe from above to", x)
		}
		list(t, runs.Fill(l, 0, 65535), ends(0, 65535), "Fill of all", l)
		list(t, runs.Wipe(l, 0, 65535), nil, "Wipe of all", l)
	}
	list(t, runs.Fill(nil, 0, 0), ends(0, 0), "Fill of the least")
	list(t, runs.Fill(nil, 65535, 65535), ends(65535, 65535), "Fill of the greatest")
	list(t, runs.Wipe(ends(0, 65535), 0, 0), ends(1, 65535), "Wipe of the least")
	list(t, runs.Wipe(ends(0, 65535), 65535, 65535), ends(0, 65534), "Wipe of the greatest")
	l := ends(10, 20, 30, 40)
	list(t, runs.Fill(l, 21, 25), ends(10, 25, 30, 40), "Fill of what touches one ahead")
	list(t, runs.Fill(l, 22, 25), ends(10, 20, 22, 25, 30, 40), "Fill of what stands one number apart")
	list(t, runs.Fill(l, 22, 28), ends(10, 20, 22, 28, 30, 40), "Fill of what stands one number apart on both sides")
	list(t, runs.Fill(l, 25, 29), ends(10, 20, 25, 40), "Fill of what touches one behind")
	list(t, runs.Fill(l, 21, 29), ends(10, 40), "Fill of what touches both")
	list(t, runs.Fill(l, 15, 35), ends(10, 40), "Fill of what overlaps both")
	list(t, runs.Fill(l, 12, 13), l, "Fill of what is there")
	list(t, runs.Fill(l, 0, 50), ends(0, 50), "Fill of more than all")
	list(t, runs.Wipe(l, 21, 29), l, "Wipe of what isn't there")
	list(t, runs.Wipe(l, 20, 30), ends(10, 19, 31, 40), "Wipe of an end and a beginning")
	list(t, runs.Wipe(l, 10, 20), ends(30, 40), "Wipe of one")
	list(t, runs.Wipe(l, 12, 13), ends(10, 11, 14, 20, 30, 40), "Wipe within one")
	list(t, runs.Wipe(l, 15, 15), ends(10, 14, 16, 20, 30, 40), "Wipe of one number")
}

func TestAddDrop(t *testing.T) {
	number := numbers(7)
	for i, l := range samples() {
		r := tableOf(l).runs()
		list(t, runs.Add(r), r, "Add of none", i)
		list(t, runs.Add(r, nil...), r, "Add of nil", i)
		list(t, runs.Drop(r), r, "Drop of none", i)
		list(t, runs.Drop(r, []uint16{}...), r, "Drop of none", i)
		list(t, runs.Add(r, l...), r, "Add of its own", i)
		list(t, runs.Drop(r, shuffled(l, 3)...), nil, "Drop of its own", i)
		list(t, runs.Add(nil, shuffled(l, 4)...), r, "Add to nil", i)
		list(t, runs.Drop(nil, l...), nil, "Drop of nil", i)
		for range 12 {
			p := shuffled(places(r), uint64(i))
			v := append(p[:number(len(p)+1)], chosen(65536, 1+number(900), uint64(i))...)
			v = shuffled(append(v, v[:number(1+len(v))]...), 5)
			with, without := tableOf(l), tableOf(l)
			with.put(true, v...)
			without.put(false, v...)
			list(t, runs.Add(r, v...), with.runs(), "Add", i, len(v))
			list(t, runs.Drop(r, v...), without.runs(), "Drop", i, len(v))
		}
		for _, v := range places(r) {
			with, without := tableOf(l), tableOf(l)
			with[v], without[v] = true, false
			list(t, runs.Add(r, v), with.runs(), "Add", i, v)
			list(t, runs.Drop(r, v, v), without.runs(), "Drop", i, v)
		}
	}
}

func TestAddDropSmall(t *testing.T) {
	for _, low := range []int{0, 300, 65530} {
		for a := range 1 << 6 {
			for b := range 1 << 6 {
				var l, v, with, without []uint16
				for i := range 6 {
					w := uint16(low + i)
					inA, inB := a>>i&1 == 1, b>>i&1 == 1
					if inA {
						l = append(l, w)
					}
					if inB {
						v = append(v, w, w)
					}
					if inA || inB {
						with = append(with, w)
					}
					if inA && !inB {
						without = append(without, w)
					}
				}
				got := runs.Add(runs.Of(l), shuffled(v, uint64(a))...)
				list(t, runs.List(got), with, "Add", l, v)
				same(t, runs.Is(got), true, "Add", l, v)
				got = runs.Drop(runs.Of(l), shuffled(v, uint64(b))...)
				list(t, runs.List(got), without, "Drop", l, v)
				same(t, runs.Is(got), true, "Drop", l, v)
			}
		}
	}
}

// TestScript changes runs on and on, and holds them against a table.
func TestScript(t *testing.T) {
	for seed := range uint64(6) {
		number := numbers(seed)
		// near is a number about one of three places, both ends among them, so that many calls meet.
		near := func() uint16 { return uint16(32768*number(3) + number(120) - 60) }
		var r []runs.Run
		x := &table{}
		for n := range 800 {
			from, v := near(), []uint16{near(), near(), near()}[:number(4)]
			to := from + uint16(number(30)-5)
			switch number(5) {
			case 0:
				r = runs.Fill(r, from, to)
				x.fill(from, to, true)
			case 1:
				r = runs.Wipe(r, from, to)
				x.fill(from, to, false)
			case 2:
				r = runs.Add(r, v...)
				x.put(true, v...)
			case 3:
				r = runs.Drop(r, v...)
				x.put(false, v...)
			case 4:
				if to = near(); number(6) == 0 {
					r = runs.Fill(r, from, to)
					x.fill(from, to, true)
				} else if number(3) == 0 {
					r = runs.Wipe(r, from, to)
					x.fill(from, to, false)
				}
			}
			list(t, r, x.runs(), "script", seed, n)
			if n%40 == 0 {
				asked(t, r, x.list(), seed, n)
			}
		}
	}
}

// The rule on memory.

// changes are all calls that answer runs, of runs and of numbers.
func changes() map[string]func(l []runs.Run, v []uint16) []runs.Run {
	return map[string]func(l []runs.Run, v []uint16) []runs.Run{
		"Of":                 func(l []runs.Run, v []uint16) []runs.Run { return runs.Of(v) },
		"Fill":               func(l []runs.Run, v []uint16) []runs.Run { return runs.Fill(l, 5, 7) },
		"Fill of one":        func(l []runs.Run, v []uint16) []runs.Run { return runs.Fill(l, 4, 4) },
		"Fill of all":        func(l []runs.Run, v []uint16) []runs.Run { return runs.Fill(l, 0, 65535) },
		"Fill of the last":   func(l []runs.Run, v []uint16) []runs.Run { return runs.Fill(l, 65535, 65535) },
		"Fill from above to": func(l []runs.Run, v []uint16) []runs.Run { return runs.Fill(l, 7, 5) },
		"Wipe":               func(l []runs.Run, v []uint16) []runs.Run { return runs.Wipe(l, 5, 7) },
		"Wipe of one":        func(l []runs.Run, v []uint16) []runs.Run { return runs.Wipe(l, 4, 4) },
		"Wipe of all":        func(l []runs.Run, v []uint16) []runs.Run { return runs.Wipe(l, 0, 65535) },
		"Wipe of the first":  func(l []runs.Run, v []uint16) []runs.Run { return runs.Wipe(l, 0, 0) },
		"Wipe from above to": func(l []runs.Run, v []uint16) []runs.Run { return runs.Wipe(l, 7, 5) },
		"Add":                func(l []runs.Run, v []uint16) []runs.Run { return runs.Add(l, v...) },
		"Add of none":        func(l []runs.Run, v []uint16) []runs.Run { return runs.Add(l) },
		"Add to none":        func(l []runs.Run, v []uint16) []runs.Run { return runs.Add(nil, v...) },
		"Drop":               func(l []runs.Run, v []uint16) []runs.Run { return runs.Drop(l, v...) },
		"Drop of none":       func(l []runs.Run, v []uint16) []runs.Run { return runs.Drop(l) },
	}
}

// tellings are all calls that answer anything else: numbers.
func tellings() map[string]func(l []runs.Run, v []uint16) []uint16 {
	about := func(v []uint16) []uint16 { return append(slices.Clone(v), 0, 5, 65535) }
	return map[string]func(l []runs.Run, v []uint16) []uint16{
		"List": func(l []runs.Run, v []uint16) []uint16 { return runs.List(l) },
		"others": func(l []runs.Run, v []uint16) []uint16 {
			all := []uint16{uint16(runs.Len(l))}
			put := func(w uint16, ok bool) {
				if all = append(all, w); ok {
					all = append(all, 1)
				}
			}
			put(0, runs.Is(l))
			for _, w := range about(v) {
				put(0, runs.Has(l, w))
				put(runs.Next(l, w))
				put(runs.Prev(l, w))
				put(uint16(runs.Rank(l, w)), true)
				for _, k := range []int{math.MinInt, -1, int(w), math.MaxInt} {
					put(runs.Select(l, k))
				}
			}
			return all
		},
	}
}

// roomy is l with others in the spare room behind it.
func roomy[T any](l []T, others ...T) []T { return slices.Concat(l, others)[:len(l)] }

func whole[T any](l []T) []T { return l[:cap(l)] }

// overwrite writes over the spare room, too.
func overwrite[T any](l []T, other func(T) T) {
	for i, v := range whole(l) {
		whole(l)[i] = other(v)
	}
}

func otherRun(r runs.Run) runs.Run { return runs.Run{From: ^r.From, To: ^r.To} }

func otherNumber(v uint16) uint16 { return ^v }

func TestMemory(t *testing.T) {
	for i, x := range short() {
		for j, y := range short() {
			mixed := shuffled(slices.Concat(y, y), 6)
			for what, f := range changes() {
				apart(t, f, otherRun, runs.Of(x), mixed, what, i, j)
			}
			for what, f := range tellings() {
				apart(t, f, otherNumber, runs.Of(x), mixed, what, i, j)
			}
		}
	}
}

// apart holds that f changes and keeps nothing of what it is handed, and that its answers share no memory with that, nor with one another.
func apart[T comparable](t *testing.T, f func(l []runs.Run, v []uint16) []T, other func(T) T, x []runs.Run, y []uint16, what string, about ...any) {
	t.Helper()
	l, v := roomy(x, ends(4, 4, 9, 8, 0, 65535, 5, 7)...), roomy(y, 4, 9, 0, 65535, 5)
	wholeL, wholeV := slices.Clone(whole(l)), slices.Clone(whole(v))
	one, again := f(l, v), f(l, v)
	want := slices.Clone(one)
	list(t, again, want, what+": the same again", about...)
	stays := func(behind string) {
		t.Helper()
		list(t, whole(l), wholeL, what+": the runs behind "+behind, about...)
		list(t, whole(v), wholeV, what+": the numbers behind "+behind, about...)
	}
	stays("the call")
	overwrite(one, other)
	list(t, again, want, what+": another answer", about...)
	stays("a change of the answer")
	overwrite(l, otherRun)
	overwrite(v, otherNumber)
	list(t, again, want, what+": the answer behind a change of what was handed in", about...)
}

// P1, P2

func TestOtherListsEnd(t *testing.T) {
	for i, l := range [][]runs.Run{
		ends(2, 1), ends(65535, 0), ends(1, 2, 3, 4), ends(1, 9, 3, 4), ends(5, 6, 1, 2), ends(0, 65535, 0, 65535), ends(0, 65535, 0, 0, 65535, 0), ends(9, 3, 9, 3, 9, 3), ends(65535, 65535, 0, 0, 65535, 65535),
		shuffled(runs.Of(chosen(400, 2, 6)), 7), shuffled(slices.Concat(runs.Of(chosen(300, 3, 6)), ends(9, 8, 40, 2, 65535, 0)), 8),
	} {
		for j, v := range short() {
			was := slices.Clone(l)
			for what, f := range changes() {
				list(t, f(l, v), f(l, v), what+" twice", i, j)
			}
			for what, f := range tellings() {
				list(t, f(l, v), f(l, v), what+" twice", i, j)
			}
			list(t, l, was, "what was handed in", i, j)
		}
	}
}

func TestExamples(t *testing.T) {
	l := runs.Fill(runs.Of([]uint16{3, 4, 9}), 5, 7)
	list(t, l, ends(3, 7, 9, 9), "Fill")
	list(t, runs.Wipe(l, 4, 4), ends(3, 3, 5, 7, 9, 9), "Wipe")
}
