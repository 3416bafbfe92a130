package face_test

import (
	"slices"
	"testing"

	"stepstone/api"
	"stepstone/code"
	"stepstone/face"
)

// P20.4

// alike is sets of all tags, each by several seeds, which have the same keys: these.
type alike struct {
	t    *testing.T
	sets []face.Set
	tags []int
	keys []uint64
}

func newAlike(t *testing.T, seeds ...uint64) *alike {
	x := &alike{t: t}
	for _, tag := range tags() {
		for _, seed := range seeds {
			x.sets, x.tags = append(x.sets, newSet(t, tag, seed, api.MaxCap)), append(x.tags, tag)
		}
	}
	return x
}

// each holds what f answers of each set against what is wanted.
func each[T comparable](x *alike, want T, what string, f func(s face.Set) T) {
	x.t.Helper()
	for i, s := range x.sets {
		same(x.t, f(s), want, what, x.tags[i], i)
	}
}

// whole holds the keys, and what else hangs on no tag and no seed.
func (x *alike) whole() {
	x.t.Helper()
	p, e := code.Keys(x.keys)
	same(x.t, e, api.OK, "layer 19's Keys")
	for i, s := range x.sets {
		has(x.t, s, x.tags[i], api.MaxCap, x.keys, "the keys", i)
		q, e := face.Encode(s)
		same(x.t, e, api.OK, "Encode", i)
		list(x.t, q, p, "Encode", i)
		same(x.t, face.Equal(s, x.sets[0]), true, "Equal", i)
		same(x.t, face.Within(x.sets[0], s), true, "Within", i)
	}
}

func (x *alike) insert(k uint64) {
	x.t.Helper()
	want := api.ErrExists
	if i, there := slices.BinarySearch(x.keys, k); !there {
		want, x.keys = api.OK, slices.Insert(x.keys, i, k)
	}
	each(x, want, "Insert", func(s face.Set) api.Errno { return s.Insert(k) })
}

func (x *alike) delete(k uint64) {
	x.t.Helper()
	want := api.ErrNone
	if i, there := slices.BinarySearch(x.keys, k); there {
		want, x.keys = api.OK, slices.Delete(x.keys, i, i+1)
	}
	each(x, want, "Delete", func(s face.Set) api.Errno { return s.Delete(k) })
}

func (x *alike) wipe(from, to uint64) {
	x.t.Helper()
	want := counted{0, api.ErrOrder}
	if from <= to {
		i, j := between(x.keys, from, to)
		want, x.keys = counted{j - i, api.OK}, slices.Delete(x.keys, i, j)
	}
	each(x, want, "Wipe", func(s face.Set) counted { return tell(face.Wipe(s, from, to)) })
}

func (x *alike) clear() {
	x.t.Helper()
	x.keys = nil
	each(x, 0, "Clear", func(s face.Set) int { s.Clear(); return s.Len() + s.Used() })
}

// ask asks for what is told of a key, of a range and of a place.
func (x *alike) ask(k, to uint64, place int) {
	x.t.Helper()
	i, there := slices.BinarySearch(x.keys, k)
	each(x, there, "Has", func(s face.Set) bool { return s.Has(k) })
	each(x, at(x.keys, i), "Next", func(s face.Set) found { return find(s.Next(k)) })
	each(x, i, "Rank", func(s face.Set) int { return face.Rank(s, k) })
	each(x, at(x.keys, place), "Select", func(s face.Set) found { return find(face.Select(s, place)) })
	want := counted{0, api.ErrOrder}
	if k <= to {
		i, j := between(x.keys, k, to)
		want = counted{j - i, api.OK}
	}
	each(x, want, "Count", func(s face.Set) counted { return tell(face.Count(s, k, to)) })
	if !there {
		i--
	}
	each(x, at(x.keys, i), "Prev", func(s face.Set) found { return find(s.Prev(k)) })
}

// join lets each set be what op says of it and another one, whose tag may be any.
func (x *alike) join(op int, other []uint64, seed uint64) {
	x.t.Helper()
	want := joined(op, x.keys, other)
	for i, s := range x.sets {
		o := build(x.t, 1+(x.tags[i]+int(seed))%5, seed, shuffled(other, seed)...)
		same(x.t, face.Equal(s, o), slices.Equal(x.keys, other), "Equal", i)
		same(x.t, face.Within(s, o), len(joined(face.OpLess, x.keys, other)) == 0, "Within", i)
		r, e := face.Join(op, x.tags[i], seed, api.MaxCap, s, o)
		same(x.t, e, api.OK, "Join", op, i)
		x.sets[i] = r
	}
	x.keys = want
}

// move lets each set be what its neighbour's bytes tell.
func (x *alike) move(seed uint64) {
	x.t.Helper()
	p, e := face.Encode(x.sets[len(x.sets)-1])
	same(x.t, e, api.OK, "Encode")
	for i, s := range x.sets {
		r, e := face.Decode(p, x.tags[i], seed, api.MaxCap)
		same(x.t, e, api.OK, "Decode", i)
		p, e = face.Encode(s)
		same(x.t, e, api.OK, "Encode", i)
		x.sets[i] = r
	}
}

// near answers a function that tells keys, some of them near the ones that it told.
func near(seed uint64) func() uint64 {
	number, last := numbers(seed), []uint64{0}
	return func() uint64 {
		k := last[number(len(last))]
		switch number(6) {
		case 0:
			k = uint64(number(1<<31)) * 0x9e3779b97f4a7c15
		case 1:
			k += uint64(number(1 << 18))
		case 2:
			k -= uint64(number(1 << 18))
		case 3:
			k ^= 1 << number(64)
		case 4:
			k += uint64(number(5)) - 2
		}
		if len(last) < 300 {
			last = append(last, k)
		}
		last[number(len(last))] = k
		return k
	}
}

func TestScripts(t *testing.T) {
	for seed := range uint64(6) {
		x := newAlike(t, seed, seed*0x9e3779b97f4a7c15)
		number, key := numbers(seed), near(seed)
		for n := range 1200 {
			switch k := key(); number(20) {
			case 0, 1, 2, 3, 4, 5, 6, 7:
				x.insert(k)
			case 8, 9, 10, 11:
				x.delete(k)
			case 12:
				x.wipe(k, k+uint64(number(1<<17)))
			case 13:
				if number(30) == 0 {
					x.clear()
				}
			case 14:
				x.join(number(4), mixed(number(40), uint64(n)), uint64(n))
			case 15:
				x.move(uint64(n))
			default:
				x.ask(k, key(), number(len(x.keys)+2)-1)
			}
			if n%60 == 0 {
				x.whole()
			}
		}
		x.whole()
	}
}

// TestManyKeys: by the thousands, near one another and far, and all gone again.
func TestManyKeys(t *testing.T) {
	x := newAlike(t, 5)
	keys := shuffled(rising(slices.Concat(spread(65000, 5000, 1), far(3000), spread(1<<50, 2000, 300))), 4)
	for _, k := range keys {
		x.insert(k)
	}
	x.whole()
	for i, k := range asked(x.keys) {
		x.ask(k, k+1<<20, 100*i)
	}
	x.wipe(66000, 68000)
	x.wipe(1<<50+5000, 1<<50+50000)
	x.whole()
	for _, k := range keys[:5000] {
		x.delete(k)
	}
	x.whole()
	x.wipe(0, greatest)
	x.whole()
}

// TestSeeds: what is told hangs on no seed.
func TestSeeds(t *testing.T) {
	keys := mixed(300, 7)
	for _, tag := range tags() {
		first := build(t, tag, 0, keys...)
		for _, seed := range []uint64{1, 2, 1 << 32, 1 << 63, greatest, 0x9e3779b97f4a7c15} {
			s := build(t, tag, seed, shuffled(keys, seed)...)
			same(t, face.Equal(s, first), true, "Equal", tag, seed)
			for _, k := range asked(keys) {
				same(t, face.Rank(s, k), face.Rank(first, k), "Rank", tag, seed, k)
				same(t, tell(face.Count(s, k, k|1<<62)), tell(face.Count(first, k, k|1<<62)), "Count", tag, seed, k)
			}
			p, _ := face.Encode(s)
			q, _ := face.Encode(first)
			list(t, p, q, "Encode", tag, seed)
			same(t, tell(face.Wipe(s, keys[50], keys[100])), counted{51, api.OK}, "Wipe", tag, seed)
			o, e := face.Join(face.OpXor, tag, seed, api.MaxCap, first, s)
			same(t, e, api.OK, "Join", tag, seed)
			list(t, all(t, o), keys[50:101], "Join", tag, seed)
		}
	}
}
