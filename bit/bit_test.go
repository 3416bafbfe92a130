package bit_test

import (
	"iter"
	"math"
	"slices"
	"testing"

	"stepstone/bit"
)

// places are bits that are there, and bits on each side that aren't.
func places() []int {
	l := []int{math.MinInt, math.MinInt + 1, -1 << 32, -65, -64, -63, -2, -1}
	for i := range 64 {
		l = append(l, i)
	}
	return append(l, 64, 65, 127, 128, 1<<32, math.MaxInt-1, math.MaxInt)
}

func words() []uint64 {
	l := []uint64{0, math.MaxUint64, math.MaxUint64 - 1, math.MaxUint64 >> 1, 0x5555555555555555, 0xaaaaaaaaaaaaaaaa, 0xffffffff, 0xffffffff00000000}
	for i := range 64 {
		l = append(l, 1<<i)
	}
	w := uint64(1)
	for i := range 200 {
		w = w*6364136223846793005 + 1442695040888963407
		v := w ^ w>>29
		if i%2 == 1 { // few bits: wide gaps
			v &= w<<17 ^ w>>31
			v &= w<<41 ^ w>>13
		}
		l = append(l, v)
	}
	return l
}

// set is the bits of w, rising, found one by one.
func set(w uint64) []int {
	var l []int
	for i := range 64 {
		if w%2 == 1 {
			l = append(l, i)
		}
		w /= 2
	}
	return l
}

func value(l []int) uint64 {
	w := uint64(0)
	for _, i := range l {
		w += uint64(math.Pow(2, float64(i)))
	}
	return w
}

func pick(l []int, wanted func(int) bool) []int {
	return slices.DeleteFunc(slices.Clone(l), func(i int) bool { return !wanted(i) })
}

func first(l []int) int {
	if len(l) == 0 {
		return -1
	}
	return l[0]
}

func last(l []int) int {
	if len(l) == 0 {
		return -1
	}
	return l[len(l)-1]
}

func same[T comparable](t *testing.T, got, want T, what string, about ...any) {
	t.Helper()
	if got != want {
		t.Fatalf("%s %v: %v, not %v", what, about, got, want)
	}
}

// P1.1

func TestGetSetClear(t *testing.T) {
	for _, w := range words() {
		l := set(w)
		for _, i := range places() {
			there := i >= 0 && i <= 63
			same(t, bit.Get(w, i), slices.Contains(l, i), "Get", w, i)
			with, without := l, pick(l, func(j int) bool { return j != i })
			if there {
				with = append(slices.Clone(without), i)
			}
			same(t, bit.Set(w, i), value(with), "Set", w, i)
			same(t, bit.Clear(w, i), value(without), "Clear", w, i)
		}
	}
}

func TestCountLowHigh(t *testing.T) {
	for _, w := range words() {
		l := set(w)
		same(t, bit.Count(w), len(l), "Count", w)
		same(t, bit.Low(w), first(l), "Low", w)
		same(t, bit.High(w), last(l), "High", w)
	}
	same(t, bit.Low(0), -1, "Low")
	same(t, bit.High(0), -1, "High")
	same(t, bit.Count(0), 0, "Count")
	same(t, bit.Count(math.MaxUint64), 64, "Count")
}

func TestNextPrevRankSelect(t *testing.T) {
	for _, w := range words() {
		l := set(w)
		for _, i := range places() {
			same(t, bit.Next(w, i), first(pick(l, func(j int) bool { return j >= i })), "Next", w, i)
			same(t, bit.Prev(w, i), last(pick(l, func(j int) bool { return j <= i })), "Prev", w, i)
			same(t, bit.Rank(w, i), len(pick(l, func(j int) bool { return j < i })), "Rank", w, i)
			want := -1
			if i >= 0 && i < len(l) {
				want = l[i]
			}
			same(t, bit.Select(w, i), want, "Select", w, i)
		}
	}
}

func TestExamples(t *testing.T) {
	w := bit.Make(3, 9)
	same(t, bit.Next(w, 4), 9, "Next")
	same(t, bit.Prev(w, 4), 3, "Prev")
	same(t, bit.Rank(w, 9), 1, "Rank")
	same(t, bit.Select(w, 1), 9, "Select")
}

// P1.2

func TestMask(t *testing.T) {
	for _, from := range places() {
		for _, to := range places() {
			want := uint64(0)
			for i := range 64 {
				if i >= from && i < to {
					want += 1 << i
				}
			}
			same(t, bit.Mask(from, to), want, "Mask", from, to)
		}
	}
}

func TestRisingFalling(t *testing.T) {
	for _, w := range words() {
		l := set(w)
		walk(t, bit.Rising(w), l)
		slices.Reverse(l)
		walk(t, bit.Falling(w), l)
	}
}

// walk goes through s twice, and then stops behind each of its numbers.
func walk(t *testing.T, s iter.Seq[int], want []int) {
	t.Helper()
	for range 2 {
		if got := slices.Collect(s); !slices.Equal(got, want) {
			t.Fatalf("%v, not %v", got, want)
		}
	}
	for n := 1; n <= len(want); n++ {
		var got []int
		s(func(i int) bool {
			got = append(got, i)
			return len(got) < n
		})
		if !slices.Equal(got, want[:n]) {
			t.Fatalf("stopped behind %d: %v, not %v", n, got, want[:n])
		}
	}
}

func TestMake(t *testing.T) {
	same(t, bit.Make(), 0, "Make")
	same(t, bit.Make(nil...), 0, "Make")
	same(t, bit.Make([]int{}...), 0, "Make")
	same(t, bit.Make(9, 3, 9), 1<<9+1<<3, "Make")
	for _, i := range places() {
		want := uint64(1<<5 + 1)
		if i >= 0 && i <= 63 && i != 5 && i != 0 {
			want += 1 << i
		}
		same(t, bit.Make(5, i, 0), want, "Make", i)
	}
	for _, w := range words() {
		same(t, bit.Make(set(w)...), w, "Make", w)
	}
	same(t, bit.Make(places()...), math.MaxUint64, "Make")
}

func TestAnyAll(t *testing.T) {
	for _, l := range [][]uint64{nil, {}} {
		same(t, bit.Any(l...), 0, "Any")
		same(t, bit.All(l...), math.MaxUint64, "All")
	}
	l := words()
	for n := 1; n <= 4; n++ {
		for from := 0; from+n <= len(l); from++ {
			part := l[from : from+n]
			var any, all []int
			for i := range 64 {
				have := 0
				for _, w := range part {
					if slices.Contains(set(w), i) {
						have++
					}
				}
				if have > 0 {
					any = append(any, i)
				}
				if have == n {
					all = append(all, i)
				}
			}
			same(t, bit.Any(part...), value(any), "Any", part)
			same(t, bit.All(part...), value(all), "All", part)
		}
	}
}

func TestListsStayTheCallers(t *testing.T) {
	ints := []int{5, 64, 3, -1, 5, 77}[:5]
	same(t, bit.Make(ints...), 1<<5+1<<3, "Make")
	if !slices.Equal(ints[:6], []int{5, 64, 3, -1, 5, 77}) {
		t.Fatal(ints[:6])
	}
	l := []uint64{7, 5, 9}[:2]
	same(t, bit.Any(l...), 7, "Any")
	same(t, bit.All(l...), 5, "All")
	if !slices.Equal(l[:3], []uint64{7, 5, 9}) {
		t.Fatal(l[:3])
	}
}
