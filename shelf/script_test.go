package shelf_test

import (
	"slices"
	"testing"

	"stepstone/api"
	"stepstone/shelf"
)

// script is a pair of shelves that are told calls by the numbers that it draws.
type script struct {
	*pair
	number func(n int) int
	// options answers those of the handle that is opened next.
	options func() shelf.Options
	key     func() uint64
	// fulls is how many calls of each name answered ErrFull.
	fulls map[string]int
}

func newScript(t *testing.T, seed uint64, options func(number func(n int) int) shelf.Options, key func(number func(n int) int) uint64) *script {
	n := numbers(seed)
	return &script{newPair(t), n, func() shelf.Options { return options(n) }, func() uint64 { return key(n) }, map[string]int{}}
}

// near are keys that meet often: near 0, near the greatest, and some far ones.
func near(number func(n int) int) uint64 {
	k := uint64(number(100))
	switch number(6) {
	case 0:
		return greatest - k
	case 1:
		return k * 0x9e3779b97f4a7c15
	case 2:
		return k << 16
	}
	return k
}

// handle is an open one mostly.
func (x *script) handle() int {
	if x.number(40) == 0 {
		return x.number(10) - 1
	}
	return x.number(api.MaxHandles)
}

func (x *script) handles() []int {
	var l []int
	for range x.number(5) {
		l = append(l, x.number(api.MaxHandles))
	}
	return l
}

// bytes are what some handle has, of some other one's kind now and then, or spoilt.
func (x *script) bytes() []byte {
	b := []byte(ask(x.s, call{name: "encode", h: x.number(api.MaxHandles)}).bytes)
	if len(b) > 0 && x.number(6) == 0 {
		b[x.number(len(b))]++
	}
	return b
}

// often is the names of calls, those more often that change something.
func often() []string {
	l := slices.DeleteFunc(names(), func(name string) bool { return name == "close" || name == "clear" })
	return append(l, "open", "insert", "insert", "insert", "insert", "put", "put", "put", "put", "delete", "delete", "delete", "wipe", "cursor", "step", "step", "step", "step", "seek")
}

func (x *script) call() call {
	name := often()[x.number(len(often()))]
	if x.number(150) == 0 {
		name = []string{"close", "clear"}[x.number(2)]
	}
	c := call{name: name, h: x.handle(), k: x.key(), to: x.key(), back: x.number(3) == 0}
	switch name {
	case "wipe":
		c.to = c.k + uint64(x.number(20)) - 1
	case "open":
		c.options = x.options()
	case "join":
		c.i, c.of = x.number(4), x.handles()
		if x.number(20) == 0 {
			c.i = x.number(9) - 3
		}
	case "equal", "within":
		c.i = x.handle()
	case "select":
		c.i = x.number(40) - 1
	case "decode":
		c.bytes = x.bytes()
	}
	return c
}

// play tells n calls; where one answers an error, nothing may have changed.
func (x *script) play(n int) {
	x.t.Helper()
	for i := range n {
		c := x.call()
		was := [api.MaxHandles]state{}
		if i%8 == 0 {
			was = seen(x.s)
		}
		a := x.ask(c)
		if a.e == api.ErrFull {
			x.fulls[c.name]++
		}
		if i%8 == 0 && a.e != api.OK && a.e != api.ErrEnd {
			same(x.t, seen(x.s), was, "what is told behind an error", c)
		}
		if i%200 == 0 {
			x.whole()
		}
	}
	x.whole()
}

func TestScripts(t *testing.T) {
	for seed := range uint64(8) {
		x := newScript(t, seed, func(number func(n int) int) shelf.Options {
			return shelf.Options{Map: number(2) == 0, Tag: 1 + number(5), Seed: uint64(number(1 << 30)), Limit: api.MaxCap}
		}, near)
		x.play(4000)
		same(t, len(x.fulls), 0, "there was room enough")
	}
}

// TestTightScripts: what fits is what fits into the Sets and Maps of the layers below.
func TestTightScripts(t *testing.T) {
	limits := [][]int{1: {0, 1, 3, 7, 20}, 2: {66, 100, 300, 700}, 3: {68, 75, 205, 300}, 4: {11, 21, 40, 90}, 5: {2, 3, 10, 30}}
	all := map[string]int{}
	for seed := range uint64(8) {
		x := newScript(t, seed, func(number func(n int) int) shelf.Options {
			tag := 1 + number(5)
			return shelf.Options{Map: number(2) == 0, Tag: tag, Seed: uint64(number(1 << 30)), Limit: limits[tag][number(len(limits[tag]))]}
		}, near)
		x.play(4000)
		for name, n := range x.fulls {
			all[name] += n
		}
	}
	for _, name := range []string{"insert", "put", "join", "decode"} {
		same(t, all[name] > 20, true, "some of these were full", name, all)
	}
}

// TestTightBuckets: of a map of tag 3 what is left behind a Wipe may need more buckets than it had.
func TestTightBuckets(t *testing.T) {
	all := 0
	for seed := range uint64(3) {
		x := newScript(t, seed, func(number func(n int) int) shelf.Options {
			return shelf.Options{Map: true, Tag: api.YFast, Seed: seed, Limit: 546 + number(8)}
		}, func(number func(n int) int) uint64 { return uint64(number(450)) })
		for h := range api.MaxHandles {
			x.asked(call{name: "open", h: h, options: x.options()}, answer{})
			for _, k := range shuffled(spread(0, 440, 1), seed+uint64(h)) {
				x.ask(call{name: "put", h: h, k: k, to: k * 3})
			}
		}
		for range 150 {
			k := x.key()
			c := call{name: "wipe", h: x.number(api.MaxHandles), k: k, to: k + uint64(x.number(2))}
			was := seen(x.s)
			if x.ask(c).e == api.ErrFull {
				all++
				same(t, seen(x.s), was, "what is told behind an error", c)
			}
			for range 3 {
				x.ask(call{name: "put", h: c.h, k: x.key(), to: k})
			}
		}
		x.whole()
	}
	same(t, all > 20, true, "some of these were full", all)
}

// TestSeeds: what is told hangs on no seed, and on no tag.
func TestSeeds(t *testing.T) {
	var want []answer
	for tag := range 5 {
		for _, seed := range []uint64{0, 1, 1 << 63, greatest, 0x9e3779b97f4a7c15} {
			opened := 0
			x := newScript(t, 5, func(number func(n int) int) shelf.Options {
				opened++
				return shelf.Options{Map: number(2) == 0, Tag: 1 + (tag+opened)%5, Seed: seed * uint64(opened), Limit: api.MaxCap}
			}, near)
			var got []answer
			for range 1500 {
				c := x.call()
				a := x.ask(c)
				if c.name == "used" {
					a = answer{}
				}
				got = append(got, a)
			}
			if want == nil {
				want = got
			}
			list(t, got, want, "a script", tag, seed)
		}
	}
}

// TestManyKeys: by the thousands, in sets and in maps, moved from one to another.
func TestManyKeys(t *testing.T) {
	keys := rising(slices.Concat(spread(65000, 2000, 1), far(1000), spread(1<<50, 1000, 300)))
	for _, isMap := range []bool{false, true} {
		x := newPair(t)
		for h := range 5 {
			x.made(h, one(1+h, isMap))
			x.asked(call{name: "decode", h: h, bytes: bytesOf(t, isMap, pairs(uint64(h), keys[h:len(keys)-h]...))}, answer{})
		}
		x.made(5, one(4, false))
		for h := range 5 {
			x.ask(call{name: "equal", h: h, i: (h + 1) % 5})
			x.ask(call{name: "within", h: h, i: (h + 1) % 5})
			x.asked(call{name: "wipe", h: h, k: keys[100], to: keys[500]}, answer{n: 401})
			x.ask(call{name: "cursor", h: h, k: keys[50], to: keys[3000]})
			for range 100 {
				x.ask(call{name: "step", h: h})
			}
		}
		for op := range 4 {
			x.asked(call{name: "join", h: 5, i: op, of: []int{0, 3, 1, 2, 4}}, answer{})
			x.ask(call{name: "encode", h: 5})
		}
		for h := range 5 {
			b := x.ask(call{name: "encode", h: h})
			x.asked(call{name: "decode", h: (h + 1) % 5, bytes: []byte(b.bytes)}, answer{})
		}
		x.whole()
	}
}
