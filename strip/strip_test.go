package strip_test

import (
	"iter"
	"math"
	"slices"
	"testing"

	"stepstone/api"
	"stepstone/strip"
)

func of(t *testing.T, words ...uint64) *strip.Strip {
	t.Helper()
	s, e := strip.Of(words)
	if e != api.OK || s == nil {
		t.Fatalf("Of %d words: %v, %v", len(words), s, e)
	}
	return s
}

func same[T comparable](t *testing.T, got, want T, what string, about ...any) {
	t.Helper()
	if got != want {
		t.Fatalf("%s %v: %v, not %v", what, about, got, want)
	}
}

func list[T comparable](t *testing.T, got, want []T, what string, about ...any) {
	t.Helper()
	if !slices.Equal(got, want) {
		t.Fatalf("%s %v: %v, not %v", what, about, got, want)
	}
}

func places(bits int) []int {
	l := []int{math.MinInt, math.MinInt + 1, -1 << 40, -129, -65, -64, -63, -1}
	for i := range min(bits, 200) {
		l = append(l, i)
	}
	for _, i := range []int{-65, -64, -63, -1, 0, 1, 63, 64, 65, 1 << 40} {
		l = append(l, bits+i)
	}
	return append(l, math.MaxInt-64, math.MaxInt-1, math.MaxInt)
}

func samples() [][]uint64 {
	l := [][]uint64{nil, {0}, {1}, {1 << 63}, {math.MaxUint64}, {0, 0}, {1 << 3, 1 << 6}, {0, 1}, {1 << 63, 1}, {0, 0, 1 << 63}, {1, 0, 0}, {0, math.MaxUint64, 0}, {math.MaxUint64, math.MaxUint64, math.MaxUint64}}
	w := uint64(7)
	for n := 1; n <= 4; n++ {
		var mixed, thin []uint64
		for range n {
			w = w*6364136223846793005 + 1442695040888963407
			mixed = append(mixed, w^w>>31)
			thin = append(thin, w&(w<<13)&(w<<29)&(w>>17))
		}
		l = append(l, mixed, thin)
	}
	return l
}

// set is the bits of the words, rising, found one by one.
func set(words []uint64) []int {
	var l []int
	for i := range 64 * len(words) {
		if words[i/64]>>(i%64)%2 == 1 {
			l = append(l, i)
		}
	}
	return l
}

func pick(l []int, wanted func(int) bool) []int {
	return slices.DeleteFunc(slices.Clone(l), func(i int) bool { return !wanted(i) })
}

// P2.1

func TestNew(t *testing.T) {
	for _, n := range []int{0, 1, 2, 63, 64, api.MaxWords - 1, api.MaxWords} {
		s, e := strip.New(n)
		same(t, e, api.OK, "New", n)
		same(t, s.Bits(), 64*n, "Bits", n)
		same(t, s.Count(), 0, "Count", n)
		list(t, s.Words(), make([]uint64, n), "Words", n)
	}
	for _, n := range []int{math.MinInt, -4096, -1, api.MaxWords + 1, 2 * api.MaxWords, 1 << 40, math.MaxInt} {
		s, e := strip.New(n)
		same(t, e, api.ErrArg, "New", n)
		same(t, s, nil, "New", n)
	}
}

func TestStripsStandApart(t *testing.T) {
	a, _ := strip.New(1)
	b, _ := strip.New(1)
	a.Fill(0, 9)
	same(t, b.Count(), 0, "another one")
	b.Set(12)
	list(t, a.Words(), []uint64{1<<9 - 1}, "the first one")
}

func TestOf(t *testing.T) {
	for _, l := range append(samples(), []uint64{}) {
		s := of(t, l...)
		same(t, s.Bits(), 64*len(l), "Bits", l)
		list(t, s.Words(), l, "Words", l)
	}
	many := make([]uint64, api.MaxWords+1)
	for i := range many {
		many[i] = uint64(i)
	}
	s := of(t, many[:api.MaxWords]...)
	list(t, s.Words(), many[:api.MaxWords], "Words")
	s, e := strip.Of(many)
	same(t, e, api.ErrArg, "Of too many")
	same(t, s, nil, "Of too many")
}

func TestWordsArentShared(t *testing.T) {
	spare := []uint64{1, 2, 3}
	l := spare[:2]
	s := of(t, l...)
	l[0] = 99
	list(t, s.Words(), []uint64{1, 2}, "Words behind a change of what was handed in")
	same(t, spare[2], 3, "spare room of what was handed in")
	a, b := s.Words(), s.Words()
	a[0] = 77
	list(t, b, []uint64{1, 2}, "another answer")
	list(t, s.Words(), []uint64{1, 2}, "Words behind a change of an answer")
	a = append(s.Words(), 5)
	b = append(s.Words(), 6)
	same(t, a[2], 5, "spare room of an answer")
	s.Set(64)
	list(t, b[:2], []uint64{1, 2}, "an answer behind a change of the strip")
	list(t, l, []uint64{99, 2}, "what was handed in")
}

func TestAsking(t *testing.T) {
	for _, words := range samples() {
		s, l := of(t, words...), set(words)
		same(t, s.Count(), len(l), "Count", words)
		for _, i := range places(s.Bits()) {
			same(t, s.Get(i), slices.Contains(l, i), "Get", words, i)
			next, prev, sel := -1, -1, -1
			if p := pick(l, func(j int) bool { return j >= i }); len(p) > 0 {
				next = p[0]
			}
			if p := pick(l, func(j int) bool { return j <= i }); len(p) > 0 {
				prev = p[len(p)-1]
			}
			if i >= 0 && i < len(l) {
				sel = l[i]
			}
			same(t, s.Next(i), next, "Next", words, i)
			same(t, s.Prev(i), prev, "Prev", words, i)
			same(t, s.Rank(i), len(pick(l, func(j int) bool { return j < i })), "Rank", words, i)
			same(t, s.Select(i), sel, "Select", words, i)
		}
		list(t, s.Words(), words, "asking changes")
	}
}

func TestSetClear(t *testing.T) {
	for _, words := range samples() {
		for _, i := range places(64 * len(words)) {
			there := i >= 0 && i < 64*len(words)
			was := there && slices.Contains(set(words), i)
			with, without := slices.Clone(words), slices.Clone(words)
			if there {
				with[i/64] |= 1 << (i % 64)
				without[i/64] &^= 1 << (i % 64)
			}
			s := of(t, words...)
			same(t, s.Set(i), there && !was, "Set", words, i)
			list(t, s.Words(), with, "Set", words, i)
			same(t, s.Set(i), false, "Set again", words, i)
			s = of(t, words...)
			same(t, s.Clear(i), was, "Clear", words, i)
			list(t, s.Words(), without, "Clear", words, i)
			same(t, s.Clear(i), false, "Clear again", words, i)
		}
	}
}

func TestFillWipe(t *testing.T) {
	edges := []int{math.MinInt, -65, -1, 0, 1, 5, 62, 63, 64, 65, 100, 127, 128, 129, 191, 192, 193, 255, 256, 257, 1 << 40, math.MaxInt}
	for _, words := range samples() {
		for _, from := range edges {
			for _, to := range edges {
				filled, wiped, fills, wipes := slices.Clone(words), slices.Clone(words), 0, 0
				for i := range 64 * len(words) {
					if i < from || i >= to {
						continue
					}
					if words[i/64]>>(i%64)%2 == 0 {
						fills++
					} else {
						wipes++
					}
					filled[i/64] |= 1 << (i % 64)
					wiped[i/64] &^= 1 << (i % 64)
				}
				s := of(t, words...)
				same(t, s.Fill(from, to), fills, "Fill", words, from, to)
				list(t, s.Words(), filled, "Fill", words, from, to)
				same(t, s.Fill(from, to), 0, "Fill again", words, from, to)
				s = of(t, words...)
				same(t, s.Wipe(from, to), wipes, "Wipe", words, from, to)
				list(t, s.Words(), wiped, "Wipe", words, from, to)
				same(t, s.Wipe(from, to), 0, "Wipe again", words, from, to)
			}
		}
	}
}

func TestAll(t *testing.T) {
	for _, words := range samples() {
		s := of(t, words...)
		walk(t, s.All(), set(words))
	}
	s := of(t, 0, 0)
	all := s.All()
	s.Set(70)
	walk(t, all, []int{70})
	s.Set(3)
	walk(t, all, []int{3, 70})
}

// walk goes through s twice, and then stops behind each of its numbers.
func walk(t *testing.T, s iter.Seq[int], want []int) {
	t.Helper()
	for range 2 {
		list(t, slices.Collect(s), want, "All")
	}
	for n := 1; n <= len(want); n++ {
		var got []int
		s(func(i int) bool {
			got = append(got, i)
			return len(got) < n
		})
		list(t, got, want[:n], "All, stopped behind", n)
	}
}

func TestExamples(t *testing.T) {
	s, _ := strip.New(2)
	same(t, s.Set(3) && s.Set(70), true, "Set")
	same(t, s.Next(4), 70, "Next")
	same(t, s.Rank(70), 1, "Rank")
	same(t, s.Fill(60, 66), 6, "Fill")
}

func TestGreatest(t *testing.T) {
	s, _ := strip.New(api.MaxWords)
	last := 64*api.MaxWords - 1
	same(t, s.Set(last) && s.Set(0), true, "Set")
	same(t, s.Set(last+1), false, "Set")
	same(t, s.Next(1), last, "Next")
	same(t, s.Prev(last-1), 0, "Prev")
	same(t, s.Prev(math.MaxInt), last, "Prev")
	same(t, s.Rank(last), 1, "Rank")
	same(t, s.Select(1), last, "Select")
	same(t, s.Fill(math.MinInt, math.MaxInt), last-1, "Fill")
	same(t, s.Count(), last+1, "Count")
	same(t, s.Select(12345), 12345, "Select")
	same(t, s.Wipe(1, last), last-1, "Wipe")
	walk(t, s.All(), []int{0, last})
}

// TestScript tells one strip many things, and holds it against a list of booleans.
func TestScript(t *testing.T) {
	const bits = 64 * 3
	s, _ := strip.New(3)
	var want [bits]bool
	seed := uint64(3)
	number := func(n int) int {
		seed = seed*6364136223846793005 + 1442695040888963407
		return int(seed >> 33 % uint64(n))
	}
	for range 4000 {
		i, j := number(bits+20)-10, number(bits+20)-10
		there := i >= 0 && i < bits
		switch number(4) {
		case 0:
			same(t, s.Set(i), there && !want[max(0, min(i, bits-1))], "Set", i)
			if there {
				want[i] = true
			}
		case 1:
			same(t, s.Clear(i), there && want[max(0, min(i, bits-1))], "Clear", i)
			if there {
				want[i] = false
			}
		case 2:
			same(t, s.Fill(i, i+j%9), change(want[:], i, i+j%9, true), "Fill", i)
		case 3:
			same(t, s.Wipe(i, i+j%9), change(want[:], i, i+j%9, false), "Wipe", i)
		}
		var l []int
		for k, is := range want {
			if is {
				l = append(l, k)
			}
		}
		list(t, slices.Collect(s.All()), l, "All")
		same(t, s.Count(), len(l), "Count")
	}
}

func change(l []bool, from, to int, is bool) int {
	n := 0
	for i := max(from, 0); i < min(to, len(l)); i++ {
		if l[i] != is {
			l[i] = is
			n++
		}
	}
	return n
}

// P2.2

func TestCopy(t *testing.T) {
	for _, words := range samples() {
		s := of(t, words...)
		o := s.Copy()
		same(t, o != nil && o != s, true, "Copy", words)
		list(t, o.Words(), words, "Copy", words)
		o.Fill(0, 64)
		list(t, s.Words(), words, "the first behind a change of the copy", words)
		o = s.Copy()
		s.Wipe(0, 256)
		list(t, o.Words(), words, "the copy behind a change of the first", words)
	}
}

func TestEqual(t *testing.T) {
	l := samples()
	for i, a := range l {
		for j, b := range l {
			same(t, of(t, a...).Equal(of(t, b...)), i == j, "Equal", a, b)
		}
	}
	s := of(t, 1, 2)
	same(t, s.Equal(s), true, "Equal to itself")
	same(t, s.Equal(of(t, 1)), false, "Equal to fewer words")
	same(t, s.Equal(of(t, 1, 2, 0)), false, "Equal to more words")
	same(t, s.Equal(of(t, 1, 3)), false, "Equal to others")
	list(t, s.Words(), []uint64{1, 2}, "Equal changes")
}

func TestOrAnd(t *testing.T) {
	for _, x := range []struct{ of, or, and []uint64 }{
		{[]uint64{5, 3}, []uint64{5, 3}, []uint64{5, 3}},
		{[]uint64{5, 3, 6, 0}, []uint64{7, 3}, []uint64{4, 0}},
		{[]uint64{5, 3, 6, 1, 12, 9}, []uint64{15, 11}, []uint64{4, 1}},
		{[]uint64{0, 0, math.MaxUint64, 1 << 63}, []uint64{math.MaxUint64, 1 << 63}, []uint64{0, 0}},
		{[]uint64{math.MaxUint64, 1 << 63, math.MaxUint64, math.MaxUint64}, []uint64{math.MaxUint64, math.MaxUint64}, []uint64{math.MaxUint64, 1 << 63}},
	} {
		var l []*strip.Strip
		for i := 0; i < len(x.of); i += 2 {
			l = append(l, of(t, x.of[i], x.of[i+1]))
		}
		or, e := strip.Or(l...)
		same(t, e, api.OK, "Or", x.of)
		list(t, or.Words(), x.or, "Or", x.of)
		and, e := strip.And(l...)
		same(t, e, api.OK, "And", x.of)
		list(t, and.Words(), x.and, "And", x.of)
		or.Wipe(0, 128)
		and.Fill(0, 128)
		for i, s := range l {
			list(t, s.Words(), x.of[2*i:2*i+2], "what was joined")
		}
	}
}

func TestOrAndOfNoWords(t *testing.T) {
	for _, f := range joins() {
		s, e := f(of(t), of(t))
		same(t, e, api.OK, "of no words")
		same(t, s != nil && s.Bits() == 0, true, "of no words")
	}
}

func joins() []func(...*strip.Strip) (*strip.Strip, api.Errno) {
	return []func(...*strip.Strip) (*strip.Strip, api.Errno){strip.Or, strip.And}
}

func TestOrAndErrors(t *testing.T) {
	one, two, none := of(t, 1), of(t, 1, 2), of(t)
	for i, l := range [][]*strip.Strip{nil, {}, {nil}, {nil, nil}, {one, nil}, {nil, one}, {one, one, nil}, {one, two}, {two, one}, {two, two, one}, {none, one}, {one, none}, {nil, two, one}} {
		was := slices.Clone(l)
		for _, f := range joins() {
			s, e := f(l...)
			same(t, e, api.ErrArg, "error", i)
			same(t, s, nil, "beside an error", i)
		}
		list(t, l, was, "what was handed in")
	}
	list(t, one.Words(), []uint64{1}, "behind errors")
	list(t, two.Words(), []uint64{1, 2}, "behind errors")
}

func TestJoinedListIsntKept(t *testing.T) {
	a, b := of(t, 1), of(t, 2)
	l := []*strip.Strip{a, b}
	s, _ := strip.Or(l...)
	l[0], l[1] = nil, nil
	a.Fill(0, 64)
	list(t, s.Words(), []uint64{3}, "Or")
	if s, _ := strip.Or(b); s == b {
		t.Fatal("Or of one isn't a new one")
	}
	if s, _ := strip.And(b); s == b {
		t.Fatal("And of one isn't a new one")
	}
}

func TestNil(t *testing.T) {
	var s *strip.Strip
	for _, i := range append(places(0), places(64)...) {
		same(t, s.Get(i) || s.Set(i) || s.Clear(i), false, "nil", i)
		same(t, s.Next(i), -1, "nil Next", i)
		same(t, s.Prev(i), -1, "nil Prev", i)
		same(t, s.Select(i), -1, "nil Select", i)
		same(t, s.Rank(i), 0, "nil Rank", i)
		same(t, s.Fill(i, math.MaxInt), 0, "nil Fill", i)
		same(t, s.Wipe(math.MinInt, i), 0, "nil Wipe", i)
	}
	same(t, s.Bits(), 0, "nil Bits")
	same(t, s.Count(), 0, "nil Count")
	same(t, s.Words() == nil, true, "nil Words")
	same(t, s.Copy(), nil, "nil Copy")
	walk(t, s.All(), nil)
	same(t, s.Equal(nil), true, "nil Equal nil")
	for _, o := range []*strip.Strip{of(t), of(t, 0)} {
		same(t, s.Equal(o), false, "nil Equal")
		same(t, o.Equal(nil), false, "Equal nil")
	}
}
