package dict_test

import (
	"slices"
	"testing"

	"stepstone/api"
	"stepstone/code"
	"stepstone/dict"
	"stepstone/face"
)

// five is maps of all tags, each by several seeds, which have the same pairs: these.
type five struct {
	t    *testing.T
	l    []*dict.Map
	tags []int
	want plain
}

func newFive(t *testing.T, seeds ...uint64) *five {
	x := &five{t: t, want: plain{}}
	for _, tag := range tags() {
		for _, seed := range seeds {
			x.l, x.tags = append(x.l, newMap(t, tag, seed, api.MaxCap)), append(x.tags, tag)
		}
	}
	return x
}

// each holds what f answers of each map against what is wanted.
func each[T comparable](x *five, want T, what string, f func(m *dict.Map) T) {
	x.t.Helper()
	for i, m := range x.l {
		same(x.t, f(m), want, what, x.tags[i], i)
	}
}

func (x *five) whole() {
	x.t.Helper()
	want := x.want.rising()
	for i, m := range x.l {
		has(x.t, m, want, x.tags[i], i)
	}
}

func (x *five) put(k, v uint64) {
	x.t.Helper()
	x.want[k] = v
	each(x, api.OK, "Put", func(m *dict.Map) api.Errno { return m.Put(k, v) })
}

func (x *five) insert(k uint64) {
	x.t.Helper()
	want := api.ErrExists
	if _, there := x.want[k]; !there {
		want, x.want[k] = api.OK, 0
	}
	each(x, want, "Insert", func(m *dict.Map) api.Errno { return m.Insert(k) })
}

func (x *five) delete(k uint64) {
	x.t.Helper()
	want := api.ErrNone
	if _, there := x.want[k]; there {
		want = api.OK
		delete(x.want, k)
	}
	each(x, want, "Delete", func(m *dict.Map) api.Errno { return m.Delete(k) })
}

func (x *five) clear() {
	x.t.Helper()
	clear(x.want)
	each(x, 0, "Clear", func(m *dict.Map) int { m.Clear(); return m.Len() + m.Used() })
}

func (x *five) load(l ...api.Pair) {
	x.t.Helper()
	for _, y := range l {
		x.want[y.Key] = y.Value
	}
	each(x, loaded{len(l), api.OK}, "Load", func(m *dict.Map) loaded { return loads(m.Load(l...)) })
}

// ask asks for what is told of a key and of a place.
func (x *five) ask(k uint64, place int) {
	x.t.Helper()
	want := x.want.rising()
	v, there := x.want[k]
	each(x, got{v, there}, "Get", func(m *dict.Map) got { return gets(m.Get(k)) })
	each(x, there, "Has", func(m *dict.Map) bool { return m.Has(k) })
	i, _ := slices.BinarySearchFunc(want, p(k, 0), byKey)
	each(x, at(want, i), "Ceil", func(m *dict.Map) met { return meets(m.Ceil(k)) })
	if !there {
		i--
	}
	each(x, at(want, i), "Floor", func(m *dict.Map) met { return meets(m.Floor(k)) })
	each(x, at(want, place), "At", func(m *dict.Map) met { return meets(m.At(place)) })
}

// move lets each map be what its neighbour's bytes tell.
func (x *five) move(seed uint64) {
	x.t.Helper()
	b, e := x.l[len(x.l)-1].Encode()
	same(x.t, e, api.OK, "Encode")
	for i, m := range x.l {
		o, e := dict.Decode(b, x.tags[i], seed, api.MaxCap)
		same(x.t, e, api.OK, "Decode", i)
		b, e = m.Encode()
		same(x.t, e, api.OK, "Encode", i)
		x.l[i] = o
	}
}

// near answers a function that tells keys, some of them near the ones that it told.
func near(seed uint64) func() uint64 {
	number, last := numbers(seed), []uint64{0}
	return func() uint64 {
		k := last[number(len(last))]
		switch number(6) {
		case 0:
			k = uint64(number(1<<31)) * 0x9e3779b97f4a7c15
		case 1:
			k += uint64(number(1 << 18))
		case 2:
			k -= uint64(number(1 << 18))
		case 3:
			k ^= 1 << number(64)
		case 4:
			k += uint64(number(5)) - 2
		}
		if len(last) < 200 {
			last = append(last, k)
		}
		last[number(len(last))] = k
		return k
	}
}

func TestScripts(t *testing.T) {
	for seed := range uint64(6) {
		x := newFive(t, seed, seed*0x9e3779b97f4a7c15+1)
		number, key := numbers(seed), near(seed)
		for n := range 1200 {
			switch k := key(); number(20) {
			case 0, 1, 2, 3, 4, 5:
				x.put(k, key())
			case 6, 7:
				x.insert(k)
			case 8, 9, 10, 11, 12:
				x.delete(k)
			case 13:
				if number(30) == 0 {
					x.clear()
				}
			case 14:
				x.load(pairs(uint64(n), k, key(), key(), k)...)
			case 15:
				if number(4) == 0 {
					x.move(uint64(n))
				}
			default:
				x.ask(k, number(len(x.want)+2)-1)
			}
			if n%60 == 0 {
				x.whole()
			}
		}
		x.whole()
	}
}

// tight is a map with little room, the bare set that its keys would be in, and its values.
type tight struct {
	t     *testing.T
	m     *dict.Map
	s     face.Set
	limit int
	want  plain
	// fulls is how many keys didn't fit, and fixed how many couldn't leave.
	fulls, fixed int
}

func newTight(t *testing.T, tag int, seed uint64, limit int) *tight {
	return &tight{t: t, m: newMap(t, tag, seed, limit), s: newSet(t, tag, seed, limit), limit: limit, want: plain{}}
}

// add is what Put and Insert answer of a key, if Put and Insert of what is there were alike.
func (x *tight) add(k, v uint64) api.Errno {
	if _, there := x.want[k]; there {
		return api.ErrExists
	}
	if len(x.want) >= x.limit || x.s.Insert(k) != api.OK {
		x.fulls++
		return api.ErrFull
	}
	x.want[k] = v
	return api.OK
}

func (x *tight) put(k, v uint64) {
	x.t.Helper()
	e := x.add(k, v)
	if e == api.ErrExists {
		e, x.want[k] = api.OK, v
	}
	same(x.t, x.m.Put(k, v), e, "Put", k)
}

func (x *tight) insert(k uint64) {
	x.t.Helper()
	same(x.t, x.m.Insert(k), x.add(k, 0), "Insert", k)
}

func (x *tight) delete(k uint64) {
	x.t.Helper()
	e := x.s.Delete(k)
	if e == api.OK {
		delete(x.want, k)
	}
	if e == api.ErrFull {
		x.fixed++
	}
	same(x.t, x.m.Delete(k), e, "Delete", k)
}

func (x *tight) load(l ...api.Pair) {
	x.t.Helper()
	want := loaded{len(l), api.OK}
	for i, y := range l {
		e := x.add(y.Key, y.Value)
		if e == api.ErrFull {
			want = loaded{i, e}
			break
		}
		x.want[y.Key] = y.Value
	}
	same(x.t, loads(x.m.Load(l...)), want, "Load")
}

func (x *tight) whole() {
	x.t.Helper()
	want := x.want.rising()
	list(x.t, collect(x.m.Pairs()), want, "Pairs")
	same(x.t, x.m.Used(), x.s.Used(), "Used")
	same(x.t, x.m.Len(), len(want), "Len")
	b, _ := x.m.Encode()
	bytes, _ := code.Pairs(want)
	list(x.t, b, bytes, "Encode")
}

// TestTightScripts: what doesn't fit, as a key or as a value, changes nothing.
func TestTightScripts(t *testing.T) {
	for tag, limits := range map[int][]int{1: {0, 1, 2, 3, 7, 40}, 2: {66, 100, 300, 1000}, 3: {68, 75, 205, 600}, 4: {11, 21, 40, 200}, 5: {2, 3, 10, 60}} {
		for i, limit := range limits {
			x := newTight(t, tag, uint64(i), limit)
			number, key := numbers(uint64(limit)), near(uint64(tag))
			for n := range 3000 {
				k := key()
				if number(2) == 0 {
					k = uint64(number(2 * (limit + 1)))
				}
				switch number(10) {
				case 0, 1, 2, 3:
					x.put(k, uint64(n))
				case 4, 5:
					x.insert(k)
				case 6, 7, 8:
					x.delete(k)
				case 9:
					x.load(pairs(uint64(n), k, k+1, key(), k)...)
				}
				if n%100 == 0 {
					x.whole()
				}
			}
			x.whole()
			same(t, x.fulls > 0, true, "some didn't fit", tag, limit)
		}
	}
}

// TestTightBoxes: boxes near the number of keys from which on a box uses less; of their deletions, too, some are full.
func TestTightBoxes(t *testing.T) {
	x := newTight(t, api.Roar, 0, 4300)
	for k := range uint64(4097) {
		x.put(k*5, k)
	}
	for k := range uint64(4300 - 4097) {
		x.put(1<<20+k, k)
	}
	x.whole()
	number := numbers(8)
	for n := range 6000 {
		k := uint64(4090+number(10)) * 5
		if number(2) == 0 {
			k = 1<<20 + uint64(200+number(6))
		}
		switch number(6) {
		case 0, 1, 2:
			x.put(k, uint64(n))
		case 3:
			x.insert(k)
		default:
			x.delete(k)
		}
		if n%500 == 0 {
			x.whole()
		}
	}
	x.whole()
	same(t, x.fulls > 100, true, "some didn't fit", x.fulls)
	same(t, x.fixed > 100, true, "some couldn't leave", x.fixed)
}

// TestManyPairs: by the thousands, near one another and far, and all gone again.
func TestManyPairs(t *testing.T) {
	x := newFive(t, 5)
	l := shuffled(pairs(3, rising(slices.Concat(spread(65000, 5000, 1), far(2000), spread(1<<50, 2000, 300)))...), 4)
	x.load(l...)
	x.whole()
	for i, y := range l[:200] {
		x.ask(y.Key+uint64(i%3), 40*i)
	}
	for _, y := range l[:4500] {
		x.delete(y.Key)
	}
	x.whole()
	x.move(9)
	x.load(l...)
	x.whole()
	for _, y := range l {
		x.delete(y.Key)
	}
	x.whole()
}

// TestSeeds: what is told hangs on no seed.
func TestSeeds(t *testing.T) {
	want := pairs(4, rising(slices.Concat(far(200), spread(1000, 100, 3)))...)
	for _, tag := range tags() {
		for _, seed := range []uint64{0, 1, 2, 1 << 32, 1 << 63, greatest, 0x9e3779b97f4a7c15} {
			m := made(t, tag, seed, shuffled(want, seed)...)
			has(t, m, want, tag, seed)
			answers(t, m, want, tag, seed)
		}
	}
}
