package sift_test

import (
	"iter"
	"math"
	"slices"
	"testing"

	"stepstone/sift"
)

const greatest = math.MaxUint64

func same[T comparable](t *testing.T, got, want T, what string, about ...any) {
	if got != want {
		t.Helper()
		t.Fatalf("%s %v: %v, not %v", what, about, got, want)
	}
}

// list holds lists against each other; long ones aren't told.
func list(t *testing.T, got, want []uint64, what string, about ...any) {
	if !slices.Equal(got, want) {
		t.Helper()
		t.Fatalf("%s %v: %v (%d), not %v (%d)", what, about, got[:min(len(got), 40)], len(got), want[:min(len(want), 40)], len(want))
	}
}

// numbers answers a function that tells numbers below n, on and on, by the seed.
func numbers(seed uint64) func(n int) int {
	return func(n int) int {
		seed = seed*6364136223846793005 + 1442695040888963407
		return int(seed >> 33 % uint64(n))
	}
}

func shuffled(l []uint64, seed uint64) []uint64 {
	number, r := numbers(seed), slices.Clone(l)
	for i := range r {
		j := i + number(len(r)-i)
		r[i], r[j] = r[j], r[i]
	}
	return r
}

// spread is n keys that are by apart, from from on.
func spread(from uint64, n int, by uint64) []uint64 {
	var l []uint64
	for i := range uint64(n) {
		l = append(l, from+i*by)
	}
	return l
}

// chosen is the keys of l each of which one of so many is.
func chosen(l []uint64, of int, seed uint64) []uint64 {
	number := numbers(seed)
	return slices.DeleteFunc(slices.Clone(l), func(uint64) bool { return number(of) > 0 })
}

func samples() [][]uint64 {
	ends := []uint64{0, 1, 2, 5, 1<<32 - 1, 1 << 32, 1 << 63, greatest - 1, greatest}
	return [][]uint64{
		nil, {0}, {greatest}, {0, greatest}, {5}, {1, 5}, {2, 5}, {5, 6}, {4, 5, 6}, {1, 2, 4, 7}, ends,
		spread(0, 40, 1), spread(0, 40, 2), spread(1, 40, 2), spread(20, 40, 1), spread(greatest-39, 40, 1), spread(3, 40, 1<<58), chosen(spread(0, 300, 1), 3, 1), chosen(spread(0, 300, 1), 3, 2), chosen(ends, 2, 3),
	}
}

// tellers is how many of the lists have each key.
func tellers(l [][]uint64) map[uint64]int {
	n := map[uint64]int{}
	for _, keys := range l {
		for _, k := range keys {
			n[k]++
		}
	}
	return n
}

// kept is the keys that are wanted by how many of the lists have them, rising.
func kept(l [][]uint64, wanted func(n int) bool) []uint64 {
	var r []uint64
	for k, n := range tellers(l) {
		if wanted(n) {
			r = append(r, k)
		}
	}
	slices.Sort(r)
	return r
}

func or(l ...[]uint64) []uint64 { return kept(l, func(n int) bool { return n > 0 }) }

func and(l ...[]uint64) []uint64 { return kept(l, func(n int) bool { return n == len(l) }) }

func less(a, b []uint64) []uint64 {
	return slices.DeleteFunc(slices.Clone(a), func(k uint64) bool { return slices.Contains(b, k) })
}

func xor(a, b []uint64) []uint64 { return kept([][]uint64{a, b}, func(n int) bool { return n == 1 }) }

// sequences are of these lists; of a nil list nil.
func sequences(l ...[]uint64) []iter.Seq[uint64] {
	var r []iter.Seq[uint64]
	for _, keys := range l {
		if keys == nil {
			r = append(r, nil)
		} else {
			r = append(r, slices.Values(keys))
		}
	}
	return r
}

// stopped is what s tells to one who stops it behind n; it holds that s tells no more then.
func stopped(t *testing.T, s iter.Seq[uint64], n int) []uint64 {
	t.Helper()
	var l []uint64
	s(func(k uint64) bool {
		l = append(l, k)
		return len(l) < n
	})
	if len(l) > n {
		t.Fatalf("stopped behind %d, it told %d more", n, len(l)-n)
	}
	return l
}

// tells holds that s tells these, rising, each once; and again, when it is gone through again, and stopped anywhere.
func tells(t *testing.T, s iter.Seq[uint64], want []uint64, what string, about ...any) {
	t.Helper()
	same(t, s != nil, true, what, about...)
	for range 2 {
		list(t, slices.Collect(s), want, what, about...)
	}
	for n := 1; n <= len(want); n += 1 + n/20 {
		list(t, stopped(t, s, n), want[:n], what+", stopped", about...)
	}
	list(t, slices.Collect(s), want, what+", behind those that were stopped", about...)
	same(t, sift.Rises(want), true, what+" rises", about...)
	same(t, sift.Count(s), len(want), what+": Count", about...)
}

// P18.1

func TestExample(t *testing.T) {
	tells(t, sift.Or(sift.Of(1, 5), sift.Of(2, 5)), []uint64{1, 2, 5}, "Or of 1, 5 and 2, 5")
}

func TestOfNone(t *testing.T) {
	tells(t, sift.Or(), nil, "Or of no sequences")
	tells(t, sift.And(), nil, "And of no sequences")
	tells(t, sift.Or([]iter.Seq[uint64]{}...), nil, "Or of no sequences")
	tells(t, sift.And([]iter.Seq[uint64]{}...), nil, "And of no sequences")
}

func TestOfOne(t *testing.T) {
	for i, l := range samples() {
		s := sequences(l)
		tells(t, sift.Or(s...), l, "Or", i)
		tells(t, sift.And(s...), l, "And", i)
		tells(t, sift.Or(sift.Of(l...)), l, "Or", i)
		tells(t, sift.And(sift.Of(l...)), l, "And", i)
	}
}

func TestOfTwo(t *testing.T) {
	for i, a := range samples() {
		for j, b := range samples() {
			for _, s := range [][]iter.Seq[uint64]{sequences(a, b), {sift.Of(a...), sift.Of(b...)}} {
				tells(t, sift.Or(s...), or(a, b), "Or", i, j)
				tells(t, sift.And(s...), and(a, b), "And", i, j)
				tells(t, sift.Less(s[0], s[1]), less(a, b), "Less", i, j)
				tells(t, sift.Xor(s[0], s[1]), xor(a, b), "Xor", i, j)
				same(t, sift.Equal(s[0], s[1]), slices.Equal(a, b), "Equal", i, j)
				same(t, sift.Within(s[0], s[1]), len(less(a, b)) == 0, "Within", i, j)
			}
		}
	}
}

// TestTheSameTwice: one sequence may be handed in twice, and more often.
func TestTheSameTwice(t *testing.T) {
	for i, l := range samples() {
		s := sift.Of(l...)
		tells(t, sift.Or(s, s), l, "Or", i)
		tells(t, sift.Or(s, s, s), l, "Or", i)
		tells(t, sift.And(s, s), l, "And", i)
		tells(t, sift.And(s, s, s, s, s), l, "And", i)
		tells(t, sift.Less(s, s), nil, "Less", i)
		tells(t, sift.Xor(s, s), nil, "Xor", i)
		same(t, sift.Equal(s, s), true, "Equal", i)
		same(t, sift.Within(s, s), true, "Within", i)
	}
}

func TestOfMany(t *testing.T) {
	all := samples()
	number := numbers(4)
	for n := 3; n <= 20; n++ {
		for range 12 {
			var l [][]uint64
			for range n {
				l = append(l, all[number(len(all))])
			}
			tells(t, sift.Or(sequences(l...)...), or(l...), "Or", n)
			tells(t, sift.And(sequences(l...)...), and(l...), "And", n)
		}
	}
	tells(t, sift.Or(sequences(all...)...), or(all...), "Or of all")
	tells(t, sift.And(sequences(all...)...), nil, "And of all")
}

// TestAllSomeNone: keys that all have, that all but one have, whichever that is, that one has, and that none has.
func TestAllSomeNone(t *testing.T) {
	for n := 1; n <= 9; n++ {
		for without := range n {
			var l [][]uint64
			want := []uint64{0, 50, greatest}
			for i := range n {
				keys := []uint64{0, 50, uint64(100 + i), greatest}
				if i != without {
					keys = []uint64{0, 30, 50, 70, uint64(100 + i), greatest - 1, greatest}
				}
				l = append(l, keys)
				want = append(want, uint64(100+i))
			}
			if n > 1 {
				want = append(want, 30, 70, greatest-1)
			}
			slices.Sort(want)
			tells(t, sift.Or(sequences(l...)...), want, "Or", n, without)
			want = []uint64{0, 50, greatest}
			if n == 1 {
				want = []uint64{0, 50, 100, greatest}
			}
			tells(t, sift.And(sequences(l...)...), want, "And", n, without)
		}
	}
}

// TestNilAndEmpty: a nil sequence, and one of no keys, among others, at whatever place.
func TestNilAndEmpty(t *testing.T) {
	a, b := []uint64{1, 5, greatest}, []uint64{0, 5, 9}
	for _, none := range []iter.Seq[uint64]{nil, sift.Of(), slices.Values([]uint64(nil)), sift.And(), sift.Or(nil)} {
		for _, l := range [][]iter.Seq[uint64]{{none, sift.Of(a...), sift.Of(b...)}, {sift.Of(a...), none, sift.Of(b...)}, {sift.Of(a...), sift.Of(b...), none}, {none, sift.Of(b...), none, sift.Of(a...), none}} {
			tells(t, sift.Or(l...), []uint64{0, 1, 5, 9, greatest}, "Or")
			tells(t, sift.And(l...), nil, "And")
		}
		for _, other := range []iter.Seq[uint64]{nil, sift.Of()} {
			tells(t, sift.Or(none, other), nil, "Or")
			tells(t, sift.And(none, other, none), nil, "And")
			tells(t, sift.Less(none, other), nil, "Less")
			tells(t, sift.Xor(none, other), nil, "Xor")
			same(t, sift.Equal(none, other), true, "Equal")
			same(t, sift.Within(none, other), true, "Within")
		}
		tells(t, sift.Or(none), nil, "Or")
		tells(t, sift.And(none), nil, "And")
		tells(t, sift.Less(sift.Of(a...), none), a, "Less")
		tells(t, sift.Less(none, sift.Of(a...)), nil, "Less")
		tells(t, sift.Xor(sift.Of(a...), none), a, "Xor")
		tells(t, sift.Xor(none, sift.Of(a...)), a, "Xor")
		same(t, sift.Equal(none, sift.Of(a...)), false, "Equal")
		same(t, sift.Equal(sift.Of(a...), none), false, "Equal")
		same(t, sift.Equal(none, sift.Of(0)), false, "Equal")
		same(t, sift.Within(none, sift.Of(a...)), true, "Within")
		same(t, sift.Within(sift.Of(a...), none), false, "Within")
		same(t, sift.Within(sift.Of(0), none), false, "Within")
		same(t, sift.Count(none), 0, "Count")
		for _, n := range []int{math.MinInt, -1, 0, 1, 7, math.MaxInt} {
			list(t, sift.First(none, n), nil, "First", n)
		}
	}
}

// TestByHand holds the plain lists that all is held against, too.
func TestByHand(t *testing.T) {
	a, b := []uint64{0, 3, 5, 8, greatest}, []uint64{1, 3, 4, 8, 9}
	tells(t, sift.Or(sequences(a, b)...), []uint64{0, 1, 3, 4, 5, 8, 9, greatest}, "Or")
	tells(t, sift.And(sequences(a, b)...), []uint64{3, 8}, "And")
	tells(t, sift.Less(sift.Of(a...), sift.Of(b...)), []uint64{0, 5, greatest}, "Less")
	tells(t, sift.Less(sift.Of(b...), sift.Of(a...)), []uint64{1, 4, 9}, "Less")
	tells(t, sift.Xor(sift.Of(a...), sift.Of(b...)), []uint64{0, 1, 4, 5, 9, greatest}, "Xor")
	tells(t, sift.Or(sequences(a, b, []uint64{2})...), []uint64{0, 1, 2, 3, 4, 5, 8, 9, greatest}, "Or")
	tells(t, sift.And(sequences(a, b, []uint64{8, 10})...), []uint64{8}, "And")
	tells(t, sift.And(sequences(a, b, []uint64{2})...), nil, "And")
}

// TestEqualWithin: alike; parting at the front, in the middle and at the end; one the other's beginning.
func TestEqualWithin(t *testing.T) {
	for _, c := range []struct {
		a, b                 []uint64
		equal, within, about bool
	}{
		{nil, nil, true, true, true},
		{nil, []uint64{0}, false, true, false},
		{[]uint64{0}, []uint64{0}, true, true, true},
		{[]uint64{greatest}, []uint64{greatest}, true, true, true},
		{[]uint64{0}, []uint64{greatest}, false, false, false},
		{[]uint64{1, 5, 9}, []uint64{1, 5, 9}, true, true, true},
		{[]uint64{2, 5, 9}, []uint64{1, 5, 9}, false, false, false},
		{[]uint64{1, 5, 9}, []uint64{1, 6, 9}, false, false, false},
		{[]uint64{1, 5, 8}, []uint64{1, 5, 9}, false, false, false},
		{[]uint64{1, 5}, []uint64{1, 5, 9}, false, true, false},
		{[]uint64{5, 9}, []uint64{1, 5, 9}, false, true, false},
		{[]uint64{1, 9}, []uint64{1, 5, 9}, false, true, false},
		{[]uint64{5}, []uint64{1, 5, 9}, false, true, false},
		{[]uint64{1, 5, 9, greatest}, []uint64{1, 5, 9}, false, false, true},
		{[]uint64{0, 1, 5, 9}, []uint64{1, 5, 9}, false, false, true},
		{[]uint64{1, 5, 7, 9}, []uint64{1, 5, 9}, false, false, true},
		{spread(0, 1000, 3), spread(0, 1000, 3), true, true, true},
		{spread(0, 1000, 3), spread(0, 1001, 3), false, true, false},
		{spread(0, 1000, 3), spread(3, 1000, 3), false, false, false},
	} {
		a, b := sift.Of(c.a...), sift.Of(c.b...)
		for range 2 {
			same(t, sift.Equal(a, b), c.equal, "Equal", c.a, c.b)
			same(t, sift.Equal(b, a), c.equal, "Equal", c.b, c.a)
			same(t, sift.Within(a, b), c.within, "Within", c.a, c.b)
			same(t, sift.Within(b, a), c.about, "Within", c.b, c.a)
		}
	}
}

func TestCount(t *testing.T) {
	for n := range 70 {
		same(t, sift.Count(slices.Values(spread(7, n, 3))), n, "Count")
		same(t, sift.Count(sift.Of(spread(greatest-100, n, 1)...)), n, "Count")
	}
	same(t, sift.Count(slices.Values(spread(0, 100000, 1<<40))), 100000, "Count")
	same(t, sift.Count(nil), 0, "Count of nil")
}

func TestFirst(t *testing.T) {
	for i, l := range samples() {
		s := sequences(l)[0]
		for _, n := range []int{math.MinInt, -1 << 32, -2, -1, 0, 1, 2, 3, 39, 40, 41, len(l) - 1, len(l), len(l) + 1, 1 << 40, math.MaxInt} {
			list(t, sift.First(s, n), l[:max(0, min(n, len(l)))], "First", i, n)
		}
	}
}

// TestFirstTakesNoMore: what is behind the first n isn't asked for, as a sequence may tell each key once alone.
func TestFirstTakesNoMore(t *testing.T) {
	next := uint64(0)
	s := func(yield func(uint64) bool) {
		for next < 100 {
			next++
			if !yield(next - 1) {
				return
			}
		}
	}
	list(t, sift.First(s, 0), nil, "First of none")
	list(t, sift.First(s, 1), []uint64{0}, "First of one")
	list(t, sift.First(s, 3), []uint64{1, 2, 3}, "First of three")
	list(t, sift.First(s, -1), nil, "First of less than none")
	list(t, sift.First(s, 200), spread(4, 96, 1), "First of all that are left")
	list(t, sift.First(s, 5), nil, "First of nothing")
}

// TestFirstIsNewMemory: two answers share none, spare room too.
func TestFirstIsNewMemory(t *testing.T) {
	keys := spread(5, 50, 2)
	s := sift.Of(keys...)
	a, b := sift.First(s, 20), sift.First(s, 20)
	for i := range a[:cap(a)] {
		a[:cap(a)][i] = 3
	}
	list(t, b, keys[:20], "another answer")
	list(t, sift.First(s, 50), keys, "the sequence")
}

func TestRises(t *testing.T) {
	for _, l := range append(samples(), []uint64{}, spread(0, 1000, 1)) {
		same(t, sift.Rises(l), true, "Rises", l)
		if len(l) == 0 {
			continue
		}
		for i := range l {
			twice := slices.Insert(slices.Clone(l), i, l[i])
			same(t, sift.Rises(twice), false, "Rises with a key twice", twice)
			same(t, sift.Rises(append(slices.Clone(l), l[i])), false, "Rises with a key again", l, i)
		}
		for i := range len(l) - 1 {
			falls := slices.Clone(l)
			falls[i], falls[i+1] = falls[i+1], falls[i]
			same(t, sift.Rises(falls), false, "Rises of what falls", falls)
		}
		slices.Reverse(l)
		same(t, sift.Rises(l), len(l) < 2, "Rises of the other way round", l)
	}
	same(t, sift.Rises([]uint64{greatest, 0}), false, "Rises of the ends")
	same(t, sift.Rises([]uint64{1<<63 - 1, 1 << 63}), true, "Rises over the middle")
	same(t, sift.Rises([]uint64{1 << 63, 1<<63 - 1}), false, "Rises over the middle")
}

func TestOf(t *testing.T) {
	tells(t, sift.Of(), nil, "Of none")
	tells(t, sift.Of([]uint64{}...), nil, "Of none")
	tells(t, sift.Of(5, 1, 5), []uint64{1, 5}, "Of 5, 1, 5")
	tells(t, sift.Of(greatest, 0, greatest, 0), []uint64{0, greatest}, "Of the ends")
	for i, l := range samples() {
		tells(t, sift.Of(shuffled(l, 1)...), l, "Of mixed ones", i)
		tells(t, sift.Of(shuffled(slices.Concat(l, l, l), 2)...), l, "Of mixed ones, three times", i)
	}
}

// TestHandedIn: lists that are handed in are neither changed nor kept, and their spare room isn't either.
func TestHandedIn(t *testing.T) {
	room := []uint64{9, 3, 9, 1, 77, 78}
	s := sift.Of(room[:4]...)
	list(t, room, []uint64{9, 3, 9, 1, 77, 78}, "what was handed to Of")
	copy(room, []uint64{5, 5, 5, 5, 5, 5})
	tells(t, s, []uint64{1, 3, 9}, "Of")
	l := []iter.Seq[uint64]{sift.Of(1), sift.Of(2, 1), sift.Of(3, 1), sift.Of(4)}
	or, and := sift.Or(l[:3]...), sift.And(l[:3]...)
	same(t, sift.Count(l[3]), 1, "what was handed to Or")
	for i := range l {
		l[i] = nil
	}
	tells(t, or, []uint64{1, 2, 3}, "Or")
	tells(t, and, []uint64{1}, "And")
	rising := []uint64{1, 5, 3}
	same(t, sift.Rises(rising), false, "Rises")
	list(t, rising, []uint64{1, 5, 3}, "what was handed to Rises")
}

// TestGoneThroughAgain: what is told is what the sequences tell then.
func TestGoneThroughAgain(t *testing.T) {
	a, b := []uint64{1, 5}, []uint64{2, 5}
	told := func(l *[]uint64) iter.Seq[uint64] {
		return func(yield func(uint64) bool) { slices.Values(*l)(yield) }
	}
	or, and, less, xor := sift.Or(told(&a), told(&b)), sift.And(told(&a), told(&b)), sift.Less(told(&a), told(&b)), sift.Xor(told(&a), told(&b))
	tells(t, or, []uint64{1, 2, 5}, "Or")
	tells(t, and, []uint64{5}, "And")
	a, b = []uint64{0, 2, 7}, []uint64{0, 7, 9}
	tells(t, or, []uint64{0, 2, 7, 9}, "Or")
	tells(t, and, []uint64{0, 7}, "And")
	tells(t, less, []uint64{2}, "Less")
	tells(t, xor, []uint64{2, 9}, "Xor")
	a, b = nil, []uint64{4}
	tells(t, or, []uint64{4}, "Or")
	tells(t, and, nil, "And")
	tells(t, less, nil, "Less")
	tells(t, xor, []uint64{4}, "Xor")
}

// TestWithinItself: a sequence is gone through while it is gone through.
func TestWithinItself(t *testing.T) {
	want := or(samples()...)
	s := sift.Or(sequences(samples()...)...)
	var got []uint64
	for k := range s {
		got = append(got, k)
		if len(got)%30 == 1 {
			tells(t, s, want, "Or, within itself")
		}
	}
	list(t, got, want, "Or")
}

// TestOfOthers: what they tell is told by others.
func TestOfOthers(t *testing.T) {
	l := samples()
	for i := range len(l) - 2 {
		a, b, c := l[i], l[i+1], l[i+2]
		x := sequences(a, b, c)
		tells(t, sift.Or(sift.And(x[0], x[1]), sift.Less(x[2], x[0])), or(and(a, b), less(c, a)), "Or of And and Less", i)
		tells(t, sift.Xor(sift.Xor(x[0], x[1]), x[2]), xor(xor(a, b), c), "Xor of Xor", i)
		tells(t, sift.Less(sift.Or(x...), sift.And(x...)), less(or(a, b, c), and(a, b, c)), "Less of Or and And", i)
		same(t, sift.Equal(sift.Xor(x[0], x[1]), sift.Less(sift.Or(x[0], x[1]), sift.And(x[0], x[1]))), true, "Xor as Less of Or and And", i)
		same(t, sift.Within(sift.And(x...), sift.Or(x...)), true, "And within Or", i)
	}
}

// TestVeryMany sequences, and sequences of very many keys.
func TestVeryMany(t *testing.T) {
	const n = 1 << 16
	var l []iter.Seq[uint64]
	for _, k := range shuffled(spread(0, n, 5), 9) {
		l = append(l, sift.Of(k, greatest))
	}
	list(t, slices.Collect(sift.Or(l...)), append(spread(0, n, 5), greatest), "Or of very many")
	list(t, slices.Collect(sift.And(l...)), []uint64{greatest}, "And of very many")
	a, b := slices.Values(spread(0, 1<<20, 2)), slices.Values(spread(0, 1<<20, 3))
	same(t, sift.Count(sift.Or(a, b)), 1<<21-(1<<21+5)/6, "Or of very many keys")
	same(t, sift.Count(sift.And(a, b)), (1<<21+5)/6, "And of very many keys")
	same(t, sift.Count(sift.Less(a, b)), 1<<20-(1<<21+5)/6, "Less of very many keys")
	same(t, sift.Count(sift.Xor(a, b)), 1<<21-2*((1<<21+5)/6), "Xor of very many keys")
}

// TestOfWrongOnes: of sequences that don't rise nothing is promised but that each call ends.
func TestOfWrongOnes(t *testing.T) {
	wrong := [][]uint64{{5, 5}, {9, 1}, {greatest, 0, greatest, 0}, shuffled(spread(0, 50, 1), 3), {7, 7, 7, 6}}
	for _, a := range wrong {
		for _, b := range append(wrong, samples()...) {
			x, y := slices.Values(a), slices.Values(b)
			for _, s := range []iter.Seq[uint64]{sift.Or(x, y, x), sift.And(y, x, y), sift.Less(x, y), sift.Less(y, x), sift.Xor(x, y)} {
				sift.Count(s)
				stopped(t, s, 2)
				sift.First(s, 3)
			}
			sift.Equal(x, y)
			sift.Within(x, y)
			sift.Within(y, x)
		}
	}
}
