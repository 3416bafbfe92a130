package shelf_test

import (
	"math"
	"slices"
	"testing"

	"stepstone/api"
	"stepstone/code"
	"stepstone/face"
	"stepstone/shelf"
)

// P25.1

// callsOf are all calls of a handle, most of them with things that would answer errors, too; of are the other handles.
func callsOf(h int, of ...int) []call {
	var l []call
	for _, name := range names() {
		switch name {
		case "taken":
		case "open":
			for _, o := range []shelf.Options{one(4, false), one(1, true), {}, {Tag: 9, Limit: -1}, {Map: true, Tag: 6}} {
				l = append(l, call{name: name, h: h, options: o})
			}
		case "join":
			for _, op := range []int{0, 1, 2, 3, 4, -1} {
				l = append(l, call{name: name, h: h, i: op, of: of})
			}
		case "select":
			l = append(l, call{name: name, h: h, i: -1}, call{name: name, h: h, i: 0})
		case "equal", "within":
			for _, o := range of {
				l = append(l, call{name: name, h: h, i: o})
			}
		case "step":
			l = append(l, call{name: name, h: h}, call{name: name, h: h, back: true})
		case "decode":
			l = append(l, call{name: name, h: h}, call{name: name, h: h, bytes: []byte{0, 0}}, call{name: name, h: h, bytes: []byte{1, 0}}, call{name: name, h: h, bytes: []byte{9}})
		default:
			l = append(l, call{name: name, h: h, k: 5, to: 9}, call{name: name, h: h, k: 9, to: 5})
		}
	}
	return l
}

// TestHandles: those that aren't there, that aren't open, and that were closed: ErrHandle goes ahead of all.
func TestHandles(t *testing.T) {
	x := newPair(t)
	for h := range api.MaxHandles {
		same(t, x.s.Taken(h), false, "Taken at first", h)
		for _, c := range callsOf(h, h) {
			if c.name != "open" {
				x.refused(c, api.ErrHandle)
			}
		}
	}
	for i, o := range kinds() {
		x := newPair(t)
		x.made(0, o, pairs(1, 1, 5, 9)...)
		x.asked(call{name: "cursor", h: 0, k: 2, to: 9}, answer{})
		x.made(1+i%7, kinds()[(i+3)%10])
		x.asked(call{name: "close", h: 1 + i%7}, answer{})
		for _, h := range append(wrongHandles(), 1, 2, 3, 4, 5, 6, 7) {
			same(t, x.s.Taken(h), false, "Taken", h)
			for _, c := range callsOf(h, 0) {
				if c.name != "open" || h < 0 || h > 7 {
					x.refused(c, api.ErrHandle, o)
				}
			}
		}
	}
}

// TestOtherHandles: those that are joined with, or held against.
func TestOtherHandles(t *testing.T) {
	for _, o := range kinds() {
		x := newPair(t)
		x.made(0, o, pairs(1, 1, 5, 9)...)
		x.made(1, one(4, false), pairs(1, 5, 12)...)
		for _, h := range append(wrongHandles(), 2, 7) {
			for _, of := range [][]int{{h}, {h, h}, {h, 0}, {0, h}, {1, h, 0}, {0, 1, 1, h}, {h, 1, 0}} {
				for _, op := range []int{0, 1, 2, 3, 4, -1, math.MaxInt} {
					x.refused(call{name: "join", h: 0, i: op, of: of}, api.ErrHandle, o)
					x.refused(call{name: "join", h: h, i: op, of: of}, api.ErrHandle, o)
				}
			}
			x.refused(call{name: "join", h: h}, api.ErrHandle, o)
			for _, name := range []string{"equal", "within"} {
				x.refused(call{name: name, h: 0, i: h}, api.ErrHandle, o)
				x.refused(call{name: name, h: h, i: 0}, api.ErrHandle, o)
				x.refused(call{name: name, h: h, i: h}, api.ErrHandle, o)
			}
		}
		x.whole()
	}
}

func TestOpen(t *testing.T) {
	for _, isMap := range []bool{false, true} {
		for _, tag := range tags() {
			for _, limit := range []int{0, 1, 66, 1000, api.MaxCap - 1, api.MaxCap} {
				for h := range api.MaxHandles {
					x := newPair(t)
					o := shelf.Options{Map: isMap, Tag: tag, Seed: uint64(limit), Limit: limit}
					x.made(h, o)
					x.whole()
					same(t, x.s.Taken(h), true, "Taken", o)
					same(t, seen(x.s)[h], state{taken: true, bytes: encoded(bytesOf(t, isMap, nil), api.OK), forth: failed(api.ErrNone), back: failed(api.ErrNone)}, "what is told at first", o)
					for _, again := range append(kinds(), o, shelf.Options{}, shelf.Options{Tag: 6, Limit: -1}, shelf.Options{Map: true, Tag: -1}) {
						x.refused(call{name: "open", h: h, options: again}, api.ErrExists, o)
					}
				}
			}
		}
	}
}

// TestOpenOfWhatThereIsnt: tags, limits.
func TestOpenOfWhatThereIsnt(t *testing.T) {
	x := newPair(t)
	x.made(3, one(2, true), pairs(1, 1, 5)...)
	for _, isMap := range []bool{false, true} {
		for _, tag := range append(wrongTags(), tags()...) {
			for _, limit := range append(wrongLimits(), 0, 100, api.MaxCap) {
				if slices.Contains(tags(), tag) && slices.Contains([]int{0, 100, api.MaxCap}, limit) {
					continue
				}
				o := shelf.Options{Map: isMap, Tag: tag, Seed: 3, Limit: limit}
				x.refused(call{name: "open", h: 0, options: o}, api.ErrArg, o)
				x.refused(call{name: "open", h: 7, options: o}, api.ErrArg, o)
				x.refused(call{name: "open", h: 3, options: o}, api.ErrExists, o)
				x.refused(call{name: "open", h: 8, options: o}, api.ErrHandle, o)
				same(t, x.s.Taken(0) || x.s.Taken(7), false, "Taken", o)
			}
		}
	}
	x.made(0, one(4, false))
	x.whole()
}

// TestCloseAndOpenAgain: nothing is left of what a handle held.
func TestCloseAndOpenAgain(t *testing.T) {
	for _, was := range kinds() {
		x := newPair(t)
		for i, o := range kinds() {
			x.made(2, was, pairs(uint64(i), 1, 5, 9)...)
			x.asked(call{name: "cursor", h: 2, k: 0, to: greatest}, answer{})
			x.asked(call{name: "step", h: 2}, answer{k: 1})
			if was.Map {
				x.asked(call{name: "put", h: 2, k: 5, to: 1 << 60}, answer{})
			}
			x.asked(call{name: "close", h: 2}, answer{})
			x.refused(call{name: "close", h: 2}, api.ErrHandle)
			x.made(2, o)
			same(t, seen(x.s)[2], state{taken: true, bytes: encoded(bytesOf(t, o.Map, nil), api.OK), forth: failed(api.ErrNone), back: failed(api.ErrNone)}, "what is told at first", was, o)
			x.refused(call{name: "seek", h: 2}, api.ErrNone)
			for _, c := range callsOf(2, 2) {
				if c.name != "open" && c.name != "close" {
					x.ask(c)
				}
			}
			x.asked(call{name: "close", h: 2}, answer{})
		}
	}
}

// TestEight at once, none of which touches another.
func TestEight(t *testing.T) {
	for turn := range 10 {
		x := newPair(t)
		for h := range api.MaxHandles {
			x.made(h, kinds()[(h+turn)%10], pairs(uint64(h), spread(uint64(h), 3+h, 5)...)...)
			x.asked(call{name: "cursor", h: h, k: uint64(h), to: 20}, answer{})
			for range h % 4 {
				x.ask(call{name: "step", h: h})
			}
		}
		x.whole()
		for h := range api.MaxHandles {
			for _, c := range callsOf(h, 7-h, h) {
				if c.name == "close" {
					continue
				}
				was := seen(x.s)
				x.ask(c)
				now := seen(x.s)
				was[h], now[h] = state{}, state{}
				same(t, now, was, "the other handles", c)
			}
		}
		x.whole()
		for h := range api.MaxHandles {
			was := seen(x.s)
			x.asked(call{name: "close", h: h}, answer{})
			was[h] = seen(shelf.New())[h]
			same(t, seen(x.s), was, "the other handles behind Close", h)
		}
	}
}

// TestShelvesAreTheirOwn: none has what another one has.
func TestShelvesAreTheirOwn(t *testing.T) {
	x, y := newPair(t), newPair(t)
	x.made(0, one(4, false), pairs(1, 5)...)
	same(t, y.s.Taken(0), false, "Taken of another shelf")
	y.made(0, one(4, false), pairs(1, 9)...)
	x.whole()
	y.whole()
	x.asked(call{name: "close"}, answer{})
	y.whole()
}

// P25.2

// TestExample: Open 0 (a set), Insert 5; Open 1, Join(0, 1, 0, 0): Has(1, 5).
func TestExample(t *testing.T) {
	s := shelf.New()
	same(t, s.Open(0, one(4, false)), api.OK, "Open")
	same(t, s.Insert(0, 5), api.OK, "Insert")
	same(t, s.Open(1, one(1, false)), api.OK, "Open")
	same(t, s.Join(0, 1, 0, 0), api.OK, "Join")
	has, e := s.Has(1, 5)
	same(t, yes(has, e), answer{yes: true}, "Has")
}

// TestAsking each thing of all samples, of sets and of maps: the answers are as of plain lists, and nothing changes.
func TestAsking(t *testing.T) {
	for _, l := range samples() {
		for _, o := range kinds() {
			x := newPair(t)
			x.made(6, o, shuffled(l, 3)...)
			x.whole()
			was := seen(x.s)
			for _, k := range asked(l) {
				for _, name := range []string{"has", "next", "prev", "rank", "get"} {
					x.ask(call{name: name, h: 6, k: k})
				}
				for _, to := range []uint64{k - 1, k, k + 1, k + 7, k | 1<<33, greatest} {
					x.ask(call{name: "count", h: 6, k: k, to: to})
				}
			}
			for _, i := range places(len(l)) {
				x.ask(call{name: "select", h: 6, i: i})
			}
			x.asked(call{name: "len", h: 6}, answer{n: len(l)})
			same(t, seen(x.s), was, "what is told behind asking", o)
		}
	}
}

// TestByHand asks for what is told of a few keys, each thing.
func TestByHand(t *testing.T) {
	for _, o := range kinds() {
		x := newPair(t)
		x.made(0, o, p(5, 7), p(9, 1), p(greatest, 3))
		for _, c := range []struct {
			c    call
			want answer
		}{
			{call{name: "has", k: 5}, answer{yes: true}},
			{call{name: "has", k: 6}, answer{}},
			{call{name: "next", k: 0}, answer{k: 5}},
			{call{name: "next", k: 5}, answer{k: 5}},
			{call{name: "next", k: 6}, answer{k: 9}},
			{call{name: "next", k: greatest}, answer{k: greatest}},
			{call{name: "prev", k: greatest}, answer{k: greatest}},
			{call{name: "prev", k: greatest - 1}, answer{k: 9}},
			{call{name: "prev", k: 5}, answer{k: 5}},
			{call{name: "prev", k: 4}, failed(api.ErrNone)},
			{call{name: "prev", k: 0}, failed(api.ErrNone)},
			{call{name: "len"}, answer{n: 3}},
			{call{name: "rank", k: 5}, answer{n: 0}},
			{call{name: "rank", k: 6}, answer{n: 1}},
			{call{name: "rank", k: greatest}, answer{n: 2}},
			{call{name: "select", i: 0}, answer{k: 5}},
			{call{name: "select", i: 2}, answer{k: greatest}},
			{call{name: "select", i: 3}, failed(api.ErrIndex)},
			{call{name: "select", i: -1}, failed(api.ErrIndex)},
			{call{name: "count", k: 5, to: 9}, answer{n: 2}},
			{call{name: "count", k: 6, to: greatest}, answer{n: 2}},
			{call{name: "count", k: 0, to: greatest}, answer{n: 3}},
			{call{name: "count", k: 9, to: 5}, failed(api.ErrOrder)},
			{call{name: "wipe", k: 9, to: 5}, failed(api.ErrOrder)},
			{call{name: "insert", k: 5}, failed(api.ErrExists)},
			{call{name: "delete", k: 6}, failed(api.ErrNone)},
			{call{name: "version"}, answer{k: 3}},
			{call{name: "delete", k: greatest}, answer{}},
			{call{name: "next", k: 10}, failed(api.ErrNone)},
			{call{name: "wipe", k: 6, to: greatest}, answer{n: 1}},
			{call{name: "len"}, answer{n: 1}},
			{call{name: "clear"}, answer{}},
			{call{name: "len"}, answer{}},
			{call{name: "next", k: 0}, failed(api.ErrNone)},
			{call{name: "prev", k: greatest}, failed(api.ErrNone)},
			{call{name: "select", i: 0}, failed(api.ErrIndex)},
			{call{name: "version"}, answer{k: 6}},
		} {
			x.asked(c.c, c.want, o)
		}
	}
}

// TestPutAndGet of maps, and of sets, which have no values.
func TestPutAndGet(t *testing.T) {
	for _, tag := range tags() {
		x := newPair(t)
		x.made(0, one(tag, true))
		x.asked(call{name: "put", k: 5, to: 7}, answer{})
		x.asked(call{name: "get", k: 5}, answer{k: 7})
		x.refused(call{name: "get", k: 6}, api.ErrNone)
		x.asked(call{name: "put", k: 5, to: 8}, answer{})
		x.asked(call{name: "get", k: 5}, answer{k: 8})
		x.refused(call{name: "insert", k: 5}, api.ErrExists)
		x.asked(call{name: "get", k: 5}, answer{k: 8})
		x.asked(call{name: "insert", k: 6}, answer{})
		x.asked(call{name: "get", k: 6}, answer{})
		x.asked(call{name: "put", k: 0, to: greatest}, answer{})
		x.asked(call{name: "get", k: 0}, answer{k: greatest})
		x.asked(call{name: "delete", k: 5}, answer{})
		x.refused(call{name: "get", k: 5}, api.ErrNone)
		x.asked(call{name: "insert", k: 5}, answer{})
		x.asked(call{name: "get", k: 5}, answer{}, "its value was gone with it")
		x.asked(call{name: "clear"}, answer{})
		x.refused(call{name: "get", k: 0}, api.ErrNone)
		x.asked(call{name: "insert", k: 0}, answer{})
		x.asked(call{name: "get", k: 0}, answer{}, "its value was gone with it")
		x.made(1, one(tag, false), p(5, 0))
		for _, k := range []uint64{0, 5, greatest} {
			x.refused(call{name: "get", h: 1, k: k}, api.ErrKind)
			x.refused(call{name: "put", h: 1, k: k, to: k}, api.ErrKind)
		}
		x.whole()
	}
}

// TestFull: a key that doesn't fit, of sets and of maps, and as a value; and one that does, then.
func TestFull(t *testing.T) {
	for _, c := range []struct {
		tag, limit int
		isMap      bool
		keys       []uint64
		more       uint64
	}{
		{1, 3, false, []uint64{1, 2, 3, 1 << 40}, 1 << 41}, {1, 3, true, []uint64{1, 2, 3}, 1 << 40},
		{2, 72, false, []uint64{1, 2, 3}, 1 << 40}, {2, 72, true, []uint64{1, 2, 3}, 1 << 40},
		{3, 70, false, []uint64{1, 2, 3}, 4}, {3, 70, true, []uint64{1, 2, 3}, 4},
		{4, 11, false, spread(0, 64, 1), 64}, {4, 11, true, spread(3, 11, 5), 63},
		{5, 4, false, []uint64{1, 2, 3}, 4}, {5, 4, true, []uint64{1, 2, 3}, 4},
	} {
		x := newPair(t)
		o := shelf.Options{Map: c.isMap, Tag: c.tag, Seed: 3, Limit: c.limit}
		x.made(4, o, pairs(5, c.keys...)...)
		x.asked(call{name: "cursor", h: 4, k: 0, to: greatest}, answer{})
		x.made(0, one(4, true), p(1, 1))
		x.refused(call{name: "insert", h: 4, k: c.more}, api.ErrFull, o)
		if c.isMap {
			x.refused(call{name: "put", h: 4, k: c.more, to: 8}, api.ErrFull, o)
			x.asked(call{name: "put", h: 4, k: c.keys[0], to: 8}, answer{}, o)
			x.asked(call{name: "get", h: 4, k: c.keys[0]}, answer{k: 8}, o)
		}
		x.refused(call{name: "insert", h: 4, k: c.keys[0]}, api.ErrExists, o)
		x.asked(call{name: "delete", h: 4, k: c.keys[1]}, answer{}, o)
		x.asked(call{name: adds(o), h: 4, k: c.keys[1], to: 5}, answer{}, o)
		x.refused(call{name: adds(o), h: 4, k: c.more, to: 5}, api.ErrFull, o)
		x.whole()
	}
}

func TestWipe(t *testing.T) {
	for _, l := range samples() {
		for n, from := range asked(l) {
			for i, to := range []uint64{from - 1, from, from + 1, from + 7, from | 1<<33, greatest, 0} {
				o := kinds()[(3*n+i)%10]
				for _, o := range []shelf.Options{o, with(kinds()[(3*n+i+5)%10], api.MaxCap-1)} {
					x := newPair(t)
					x.made(7, o, l...)
					x.ask(call{name: "wipe", h: 7, k: from, to: to})
					x.whole()
					x.ask(call{name: adds(o), h: 7, k: from, to: 3})
					x.whole()
				}
			}
		}
	}
}

// TestWipeKeepsValues of the keys that are left.
func TestWipeKeepsValues(t *testing.T) {
	for _, tag := range tags() {
		x := newPair(t)
		x.made(1, one(tag, true), p(1, 10), p(5, 50), p(9, 90), p(12, 0), p(1<<40, greatest))
		x.asked(call{name: "wipe", h: 1, k: 5, to: 11}, answer{n: 2})
		for k, v := range map[uint64]uint64{1: 10, 12: 0, 1 << 40: greatest} {
			x.asked(call{name: "get", h: 1, k: k}, answer{k: v})
		}
		x.refused(call{name: "get", h: 1, k: 5}, api.ErrNone)
		x.asked(call{name: "insert", h: 1, k: 5}, answer{})
		x.asked(call{name: "get", h: 1, k: 5}, answer{}, "its value was gone with it")
		x.asked(call{name: "encode", h: 1}, answer{bytes: string(bytesOf(t, true, []api.Pair{p(1, 10), p(5, 0), p(12, 0), p(1<<40, greatest)}))})
		x.asked(call{name: "wipe", h: 1, k: 0, to: greatest}, answer{n: 4})
		x.asked(call{name: "used", h: 1}, answer{})
		x.whole()
	}
}

// TestWipeIsMadeByItsOwnOptions: what is put behind it fits as ahead of it.
func TestWipeIsMadeByItsOwnOptions(t *testing.T) {
	for tag, limit := range []int{1: 3, 2: 72, 3: 70, 4: 21, 5: 5} {
		if tag == 0 {
			continue
		}
		for _, isMap := range []bool{false, true} {
			x := newPair(t)
			x.made(0, shelf.Options{Map: isMap, Tag: tag, Seed: 5, Limit: limit})
			for n := range uint64(30) {
				x.ask(call{name: adds(shelf.Options{Map: isMap}), k: n * n % 17 << (n % 3), to: n})
				x.ask(call{name: "wipe", k: n % 7, to: n % 5})
				x.whole()
			}
		}
	}
}

// TestWipeOfAMapMayBeFull: what is left is put in anew, rising, and may need more on the way.
func TestWipeOfAMapMayBeFull(t *testing.T) {
	x := newPair(t)
	o := shelf.Options{Map: true, Tag: api.Roar, Limit: 4100}
	x.made(2, o, pairs(4, slices.Concat(spread(1<<17, 4098, 1), []uint64{0, 65536})...)...)
	x.asked(call{name: "used", h: 2}, answer{n: 1029})
	x.asked(call{name: "cursor", h: 2, k: 5, to: 1<<17 + 3}, answer{})
	x.asked(call{name: "step", h: 2}, answer{k: 65536})
	for _, r := range [][2]uint64{{1 << 17, 1 << 17}, {1<<17 + 4097, greatest}, {1<<17 + 4097, 1<<17 + 4097}, {70000, 1 << 17}} {
		x.refused(call{name: "wipe", h: 2, k: r[0], to: r[1]}, api.ErrFull, r)
		x.refused(call{name: "wipe", h: 2, k: r[0], to: r[0] - 1}, api.ErrOrder, r)
	}
	x.asked(call{name: "step", h: 2}, answer{k: 1 << 17})
	x.asked(call{name: "wipe", h: 2, k: 0, to: 65535}, answer{n: 1})
	x.refused(call{name: "step", h: 2}, api.ErrStale)
	x.asked(call{name: "wipe", h: 2, k: 1<<17 + 1, to: 1<<17 + 2}, answer{n: 2})
	x.asked(call{name: "used", h: 2}, answer{n: 2 + 4097})
	x.whole()
}

// TestWipeAndDeleteOfASetMayBeFull, of tag 5: a box of few enough keys is a list, which uses more. So may Delete of a map.
func TestWipeAndDeleteOfASetMayBeFull(t *testing.T) {
	for _, isMap := range []bool{false, true} {
		x := newPair(t)
		o := shelf.Options{Map: isMap, Tag: api.Roar, Limit: 8000}
		x.made(2, o, pairs(4, slices.Concat(spread(1<<17, 4097, 1), spread(65536, 3903, 2))...)...)
		x.asked(call{name: "used", h: 2}, answer{n: 1025 + 3904})
		x.made(3, o, pairs(4, slices.Concat(spread(1<<17, 3000, 1), spread(65536, 3000, 2))...)...)
		x.asked(call{name: "cursor", h: 2, k: 0, to: greatest}, answer{})
		x.refused(call{name: "delete", h: 2, k: 1 << 17}, api.ErrFull)
		x.refused(call{name: "wipe", h: 2, k: 1 << 17, to: 1 << 17}, api.ErrFull)
		x.refused(call{name: "delete", h: 2, k: 1 << 18}, api.ErrNone)
		x.refused(call{name: "wipe", h: 2, k: 1<<17 + 1, to: 1 << 17}, api.ErrOrder)
		x.asked(call{name: "wipe", h: 2, k: 65536, to: 65537}, answer{n: 1})
		x.asked(call{name: "wipe", h: 2, k: 1 << 17, to: 1 << 17}, answer{n: 1})
		x.asked(call{name: "clear", h: 2}, answer{})
		x.whole()
	}
}

func TestJoin(t *testing.T) {
	lists := [][]uint64{nil, {5}, {1, 5, 9}, {5, 9, 12, greatest}, {0, 1, 1 << 40}, spread(0, 20, 3)}
	for _, op := range []int{0, 1, 2, 3} {
		for n, of := range [][]int{nil, {0}, {1}, {2}, {1, 2}, {2, 1}, {0, 1, 2}, {1, 2, 3, 4, 5}, {5, 4, 3, 2, 1, 0}, {1, 1}, {1, 1, 1}, {2, 2, 3, 3, 3}, {0, 0, 2}, {3, 0, 0}, {5, 5, 5, 5, 5, 5, 4}} {
			for turn := range 10 {
				x := newPair(t)
				for h := range lists {
					o := kinds()[(h+turn+n)%10]
					if h == 0 {
						o = one(1+(turn+n)%5, false)
					}
					x.made(h, o, pairs(uint64(n), lists[(h+turn)%len(lists)]...)...)
				}
				was := seen(x.s)
				x.asked(call{name: "join", h: 0, i: op, of: of}, answer{}, of)
				x.whole()
				now := seen(x.s)
				was[0], now[0] = state{}, state{}
				same(t, now, was, "the other handles", op, of)
				x.asked(call{name: "join", h: 0, i: op, of: of}, answer{}, of)
				x.whole()
			}
		}
	}
}

// TestJoinByHand: what each op says.
func TestJoinByHand(t *testing.T) {
	for _, tag := range tags() {
		x := newPair(t)
		x.made(0, one(tag, false))
		x.made(1, one(1+tag%5, false), pairs(0, 1, 5, 9)...)
		x.made(2, one(1+(tag+1)%5, true), pairs(3, 5, 9, 12)...)
		x.made(3, one(1+(tag+2)%5, true), pairs(3, 9, 12, 1<<50)...)
		for _, c := range []struct {
			op   int
			of   []int
			want []uint64
		}{
			{0, []int{1, 2}, []uint64{1, 5, 9, 12}}, {1, []int{1, 2}, []uint64{5, 9}}, {2, []int{1, 2}, []uint64{1}}, {2, []int{2, 1}, []uint64{12}}, {3, []int{1, 2}, []uint64{1, 12}},
			{0, []int{1, 2, 3}, []uint64{1, 5, 9, 12, 1 << 50}}, {1, []int{1, 2, 3}, []uint64{9}}, {2, []int{3, 2, 1}, []uint64{1 << 50}}, {3, []int{1, 2, 3}, []uint64{1, 9, 1 << 50}},
			{0, []int{3}, []uint64{9, 12, 1 << 50}}, {1, []int{3}, []uint64{9, 12, 1 << 50}}, {2, []int{3}, []uint64{9, 12, 1 << 50}}, {3, []int{3}, []uint64{9, 12, 1 << 50}},
			{3, []int{0, 2}, []uint64{5, 1 << 50}}, {0, []int{0, 1}, []uint64{1, 5, 9, 1 << 50}}, {2, []int{0, 1}, []uint64{1 << 50}}, {2, []int{1, 0}, []uint64{1, 5, 9}}, {1, []int{0, 2, 0}, []uint64{5, 9}},
			{2, []int{0, 0}, nil}, {0, []int{1}, []uint64{1, 5, 9}}, {3, []int{0, 0}, nil}, {0, []int{1}, []uint64{1, 5, 9}},
			{0, nil, nil}, {0, []int{1}, []uint64{1, 5, 9}}, {1, nil, nil}, {0, []int{1}, []uint64{1, 5, 9}}, {2, nil, nil}, {0, []int{1}, []uint64{1, 5, 9}}, {3, nil, nil},
		} {
			x.asked(call{name: "join", h: 0, i: c.op, of: c.of}, answer{}, c.of)
			x.asked(call{name: "encode", h: 0}, answer{bytes: string(bytesOf(t, false, pairs(0, c.want...)))}, c)
		}
		x.whole()
	}
}

// TestJoinRefused: into a map, by an op that there isn't, or where it doesn't fit.
func TestJoinRefused(t *testing.T) {
	for _, tag := range tags() {
		x := newPair(t)
		l := pairs(0, spread(3, 40, 1<<20)...)
		x.made(0, one(tag, false), p(5, 0))
		x.made(1, one(1+tag%5, true), l...)
		x.made(2, shelf.Options{Tag: tag, Limit: fits(t, one(tag, false), l)}, p(5, 0))
		x.made(3, shelf.Options{Tag: tag, Limit: fits(t, one(tag, false), l) - 1}, p(5, 0))
		x.made(4, shelf.Options{Tag: tag, Limit: 0})
		for h := range 5 {
			x.asked(call{name: "cursor", h: h, k: 0, to: greatest}, answer{})
		}
		for _, op := range []int{math.MinInt, -2, -1, 4, 5, 256, 257, 1 << 32, math.MaxInt} {
			for _, of := range [][]int{nil, {1}, {0, 1}, {0, 0}, {4}} {
				x.refused(call{name: "join", h: 0, i: op, of: of}, api.ErrArg)
				x.refused(call{name: "join", h: 4, i: op, of: of}, api.ErrArg)
				x.refused(call{name: "join", h: 1, i: op, of: of}, api.ErrKind)
			}
		}
		for op := range 4 {
			for _, of := range [][]int{nil, {0}, {1}, {1, 1, 0}} {
				x.refused(call{name: "join", h: 1, i: op, of: of}, api.ErrKind)
			}
			x.refused(call{name: "join", h: 3, i: op, of: []int{1}}, api.ErrFull)
			x.refused(call{name: "join", h: 4, i: op, of: []int{0}}, api.ErrFull)
			x.asked(call{name: "join", h: 4, i: op}, answer{})
			x.asked(call{name: "join", h: 2, i: op, of: []int{1}}, answer{})
			x.whole()
		}
		x.refused(call{name: "join", h: 3, i: 3, of: []int{0, 1, 0}}, api.ErrFull)
	}
}

// TestEqualAndWithin for all pairs of samples, and of a handle with itself: values don't count.
func TestEqualAndWithin(t *testing.T) {
	for i, a := range samples() {
		for j, b := range samples() {
			x := newPair(t)
			x.made(3, kinds()[(i+j)%10], a...)
			x.made(4, kinds()[(3*i+7*j+1)%10], b...)
			x.made(5, kinds()[(i+3*j+2)%10], pairs(99, keysOf(a)...)...)
			if len(a) > 1 {
				x.ask(call{name: "delete", h: 5, k: a[len(a)/2].Key})
				x.asked(call{name: "within", h: 5, i: 3}, answer{yes: true})
				x.asked(call{name: "equal", h: 5, i: 3}, answer{})
				x.asked(call{name: "within", h: 3, i: 5}, answer{})
				x.asked(call{name: "equal", h: 3, i: 5}, answer{})
				x.ask(call{name: "insert", h: 5, k: a[len(a)/2].Key})
			}
			was := seen(x.s)
			for _, name := range []string{"equal", "within"} {
				x.ask(call{name: name, h: 3, i: 4})
				x.ask(call{name: name, h: 4, i: 3})
				x.asked(call{name: name, h: 3, i: 3}, answer{yes: true})
				x.asked(call{name: name, h: 3, i: 5}, answer{yes: true})
				x.asked(call{name: name, h: 5, i: 3}, answer{yes: true})
			}
			same(t, seen(x.s), was, "what is told behind Equal and Within")
		}
	}
}

// P25.3

// TestEncodeAndDecode between handles of one kind, of all pairs of tags.
func TestEncodeAndDecode(t *testing.T) {
	for i, l := range samples() {
		for _, from := range kinds() {
			for _, tag := range tags() {
				o := one(tag, from.Map)
				x := newPair(t)
				x.made(1, from, shuffled(l, 5)...)
				x.made(2, o, pairs(8, 5, 6, 7)...)
				x.made(3, with(o, fits(t, o, l)))
				a := x.ask(call{name: "encode", h: 1})
				same(t, a, answer{bytes: string(bytesOf(t, from.Map, l))}, "Encode", from, i)
				for h := range 3 {
					x.asked(call{name: "decode", h: 1 + h, bytes: []byte(a.bytes)}, answer{}, o)
					x.asked(call{name: "encode", h: 1 + h}, a)
				}
				x.whole()
				if less := fits(t, o, l) - 1; less >= 0 {
					x.made(4, with(o, less))
					x.refused(call{name: "decode", h: 4, bytes: []byte(a.bytes)}, api.ErrFull, o, i)
					if len(l) > 1 && fits(t, o, l[:len(l)-1]) <= less {
						x.asked(call{name: "decode", h: 4, bytes: bytesOf(t, o.Map, l[:len(l)-1])}, answer{})
						x.asked(call{name: "cursor", h: 4, k: 0, to: greatest}, answer{})
						x.refused(call{name: "decode", h: 4, bytes: []byte(a.bytes)}, api.ErrFull, o, i)
					}
				}
				x.whole()
			}
		}
	}
}

// TestDecodeRefused: the bytes of the other kind, and any bytes.
func TestDecodeRefused(t *testing.T) {
	for _, o := range kinds() {
		for _, limit := range []int{0, 200, api.MaxCap} {
			x := newPair(t)
			x.made(0, with(o, limit))
			if limit > 0 {
				x.ask(call{name: adds(o), k: 5, to: 9})
			}
			x.asked(call{name: "cursor", k: 0, to: greatest}, answer{})
			for i, l := range samples() {
				good := bytesOf(t, o.Map, l)
				x.refused(call{name: "decode", bytes: bytesOf(t, !o.Map, l)}, api.ErrForm, o, i)
				for n := range min(len(good), 20) {
					x.refused(call{name: "decode", bytes: good[:n]}, api.ErrForm, o, i)
				}
				for _, b := range []byte{0, 1, 128, 255} {
					x.refused(call{name: "decode", bytes: append(slices.Clone(good), b)}, api.ErrForm, o, i)
				}
			}
			number := numbers(uint64(limit))
			for range 300 {
				b := []byte{byte(number(3)), byte(number(4))}
				for range number(9) {
					b = append(b, byte(number(256)))
				}
				x.ask(call{name: "decode", bytes: b})
			}
			for b := range 256 {
				x.refused(call{name: "decode", bytes: []byte{byte(b)}}, api.ErrForm)
			}
			x.whole()
		}
	}
}

// TestTooManyForBytes: more than MaxKeys have no bytes.
func TestTooManyForBytes(t *testing.T) {
	for _, isMap := range []bool{false, true} {
		s := shelf.New()
		same(t, s.Open(0, shelf.Options{Map: isMap, Tag: api.Roar, Limit: api.MaxCap}), api.OK, "Open")
		for k := range uint64(api.MaxKeys) {
			s.Insert(0, k)
		}
		b, e := s.Encode(0)
		same(t, e, api.OK, "Encode of MaxKeys")
		l, _, e := code.Parse(b)
		same(t, e, api.OK, "layer 19's Parse")
		same(t, len(l), api.MaxKeys, "so many were encoded")
		same(t, s.Insert(0, greatest), api.OK, "Insert")
		b, e = s.Encode(0)
		same(t, e, api.ErrArg, "Encode of more than MaxKeys")
		same(t, len(b), 0, "Encode of more than MaxKeys")
		n, e := s.Len(0)
		same(t, number(n, e), answer{n: api.MaxKeys + 1}, "Len")
	}
}

// TestMemory: what is handed in isn't changed or kept, and an answer is the caller's own.
func TestMemory(t *testing.T) {
	for _, o := range kinds() {
		x := newPair(t)
		l := pairs(3, 1, 5, 9, 300)
		x.made(0, o)
		b := append(make([]byte, 0, 100), bytesOf(t, o.Map, l)...)
		spare := b[len(b):cap(b)]
		for i := range spare {
			spare[i] = 7
		}
		was := slices.Clone(b)
		x.asked(call{name: "decode", bytes: b}, answer{})
		list(t, b, was, "the bytes that were handed in", o)
		for _, c := range spare {
			same(t, c, 7, "their spare room", o)
		}
		clear(b[:cap(b)])
		x.whole()
		one, e := x.s.Encode(0)
		same(t, e, api.OK, "Encode")
		two, _ := x.s.Encode(0)
		clear(one[:cap(one)])
		list(t, two, was, "another answer", o)
		x.whole()
		x.made(1, shelf.Options{Tag: 1 + o.Tag%5, Limit: 1000}, p(2, 0))
		of := append(make([]int, 0, 10), 0, 1)
		clear(of[2:10])
		x.asked(call{name: "join", h: 1, i: 0, of: of}, answer{})
		list(t, of[:10], []int{0, 1, 0, 0, 0, 0, 0, 0, 0, 0}, "the handles that were handed in", o)
		of[0] = 5
		x.whole()
	}
}

// P25.4

func TestCursor(t *testing.T) {
	for _, l := range samples() {
		for n, from := range asked(l) {
			for i, to := range []uint64{from - 1, from, from + 7, from | 1<<33, greatest} {
				x := newPair(t)
				x.made(5, kinds()[(n+3*i)%10], l...)
				if from > to {
					x.refused(call{name: "cursor", h: 5, k: from, to: to}, api.ErrOrder)
					continue
				}
				x.asked(call{name: "cursor", h: 5, k: from, to: to}, answer{})
				x.walks(5, asked(l))
			}
		}
	}
}

// walks lets a cursor go to both ends and beyond, and seek.
func (x *pair) walks(h int, keys []uint64) {
	x.t.Helper()
	was := x.ask(call{name: "version", h: h})
	for _, back := range []bool{false, true, false, true, true} {
		for x.ask(call{name: "step", h: h, back: back}).e == api.OK {
		}
		x.refused(call{name: "step", h: h, back: back}, api.ErrEnd)
		x.ask(call{name: "step", h: h, back: !back})
	}
	for _, k := range keys {
		x.ask(call{name: "seek", h: h, k: k})
		x.ask(call{name: "step", h: h, back: true})
		x.ask(call{name: "seek", h: h, k: k})
		x.ask(call{name: "step", h: h})
		x.ask(call{name: "step", h: h})
	}
	x.asked(call{name: "version", h: h}, was)
}

func TestCursorByHand(t *testing.T) {
	for _, o := range kinds() {
		x := newPair(t)
		x.made(0, o, pairs(2, 1, 5, 9)...)
		x.refused(call{name: "step"}, api.ErrNone)
		x.refused(call{name: "step", back: true}, api.ErrNone)
		x.refused(call{name: "seek", k: 5}, api.ErrNone)
		x.refused(call{name: "cursor", k: 9, to: 2}, api.ErrOrder)
		x.refused(call{name: "step"}, api.ErrNone)
		for _, c := range []struct {
			c    call
			want answer
		}{
			{call{name: "cursor", k: 2, to: 9}, answer{}},
			{call{name: "step", back: true}, failed(api.ErrEnd)},
			{call{name: "step"}, answer{k: 5}},
			{call{name: "step"}, answer{k: 9}},
			{call{name: "step"}, failed(api.ErrEnd)},
			{call{name: "step", back: true}, answer{k: 9}},
			{call{name: "step", back: true}, answer{k: 5}},
			{call{name: "step", back: true}, failed(api.ErrEnd)},
			{call{name: "seek", k: 6}, answer{k: 9}},
			{call{name: "step"}, answer{k: 9}},
			{call{name: "seek", k: 0}, answer{k: 5}},
			{call{name: "seek", k: 10}, failed(api.ErrEnd)},
			{call{name: "step", back: true}, answer{k: 9}},
			{call{name: "cursor", k: 9, to: 2}, failed(api.ErrOrder)},
			{call{name: "step"}, answer{k: 9}},
			{call{name: "cursor", k: 0, to: 5}, answer{}},
			{call{name: "step"}, answer{k: 1}},
			{call{name: "step"}, answer{k: 5}},
			{call{name: "step"}, failed(api.ErrEnd)},
			{call{name: "insert", k: 7}, answer{}},
			{call{name: "step"}, failed(api.ErrStale)},
			{call{name: "step", back: true}, failed(api.ErrStale)},
			{call{name: "seek", k: 5}, failed(api.ErrStale)},
			{call{name: "delete", k: 7}, answer{}},
			{call{name: "step"}, failed(api.ErrStale)},
			{call{name: "cursor", k: 9, to: 2}, failed(api.ErrOrder)},
			{call{name: "step"}, failed(api.ErrStale)},
			{call{name: "cursor", k: 6, to: 9}, answer{}},
			{call{name: "step"}, answer{k: 9}},
		} {
			x.asked(c.c, c.want, o)
		}
		x.made(1, o)
		x.asked(call{name: "cursor", h: 1, k: 0, to: greatest}, answer{})
		for _, c := range []call{{name: "step"}, {name: "step", back: true}, {name: "seek"}, {name: "seek", k: greatest}} {
			c.h = 1
			x.asked(c, failed(api.ErrEnd), o)
		}
	}
}

// changes are calls of handle 0, which has 1, 5, 9 and 12: those that change a key, and those that change none; handle 1 has 2 and 5, handle 2 what handle 0 has.
func changes(t *testing.T, o shelf.Options) (some, none []call) {
	l := pairs(2, 1, 5, 9, 12)
	some = []call{
		{name: "insert", k: 6}, {name: "delete", k: 5}, {name: "delete", k: 12},
		{name: "wipe", k: 5, to: 9}, {name: "wipe", k: 0, to: 1}, {name: "clear"},
		{name: "decode", bytes: bytesOf(t, o.Map, nil)}, {name: "decode", bytes: bytesOf(t, o.Map, l[1:])}, {name: "decode", bytes: bytesOf(t, o.Map, pairs(2, 1, 5, 9, 13))},
	}
	none = []call{
		{name: "insert", k: 5}, {name: "delete", k: 6}, {name: "wipe", k: 6, to: 8}, {name: "wipe", k: 9, to: 5},
		{name: "decode", bytes: bytesOf(t, o.Map, l)}, {name: "decode", bytes: []byte{0}}, {name: "decode", bytes: bytesOf(t, !o.Map, nil)},
		{name: "get", k: 5}, {name: "has", k: 5}, {name: "next", k: 6}, {name: "prev", k: 6}, {name: "len"}, {name: "rank", k: 6}, {name: "select", i: 2}, {name: "select", i: 4}, {name: "count", k: 2, to: 9}, {name: "equal", i: 1}, {name: "within", i: 2}, {name: "encode"}, {name: "version"}, {name: "used"}, {name: "taken"},
		{name: "cursor", k: 9, to: 5}, {name: "open", options: o}, {name: "insert", h: 1, k: 77}, {name: "delete", h: 2, k: 5}, {name: "clear", h: 1}, {name: "close", h: 2},
		{name: "join", i: 0, of: []int{0, 7}}, {name: "join", i: 4, of: []int{1}}, {name: "put", h: 7, k: 5},
	}
	if o.Map {
		return append(some, call{name: "put", k: 6, to: 1}, call{name: "put", k: 0}), append(none, call{name: "put", k: 5, to: l[1].Value}, call{name: "join", i: 0, of: []int{1}})
	}
	return append(some, call{name: "join", i: 0, of: []int{0, 1}}, call{name: "join", i: 2, of: []int{0, 1}}, call{name: "join", i: 1}),
		append(none, call{name: "join", i: 0, of: []int{2}}, call{name: "join", i: 1, of: []int{0, 0}}, call{name: "join", i: 3, of: []int{2, 1, 1}}, call{name: "put", k: 6, to: 1}, call{name: "put", k: 5, to: 1})
}

// threeHandles are open: 0 with 1, 5, 9 and 12 and a cursor, which stands behind 5; 1 with 2 and 5; 2 with what 0 has.
func threeHandles(t *testing.T, o shelf.Options) *pair {
	t.Helper()
	x := newPair(t)
	x.made(0, o, pairs(2, 1, 5, 9, 12)...)
	x.made(1, one(1+o.Tag%5, !o.Map), pairs(2, 2, 5)...)
	x.made(2, one(1+(o.Tag+2)%5, o.Map), pairs(2, 1, 5, 9, 12)...)
	x.asked(call{name: "cursor", k: 2, to: greatest}, answer{})
	x.asked(call{name: "step"}, answer{k: 5})
	x.asked(call{name: "version"}, answer{k: 4})
	return x
}

// TestStale behind what changed a key, whichever call did, and behind nothing else; the version is one more then.
func TestStale(t *testing.T) {
	for _, o := range kinds() {
		some, none := changes(t, o)
		for _, c := range some {
			x := threeHandles(t, o)
			same(t, x.ask(c).e, api.OK, "a change", o, c)
			x.asked(call{name: "version"}, answer{k: 5}, o, c)
			for _, b := range []call{{name: "step"}, {name: "step", back: true}, {name: "seek"}, {name: "seek", k: 5}, {name: "seek", k: greatest}} {
				x.refused(b, api.ErrStale, o, c)
			}
			x.whole()
			x.asked(call{name: "cursor", k: 0, to: greatest}, answer{}, o, c)
			x.walks(0, asked(pairs(0, 1, 5, 9, 12)))
		}
		for _, c := range none {
			x := threeHandles(t, o)
			x.ask(c)
			x.asked(call{name: "version"}, answer{k: 4}, o, c)
			x.asked(call{name: "step"}, answer{k: 9}, o, c)
			x.ask(c)
			x.asked(call{name: "step", back: true}, answer{k: 9}, o, c)
			x.asked(call{name: "step", back: true}, answer{k: 5}, o, c)
			x.asked(call{name: "step", back: true}, failed(api.ErrEnd), o, c)
			x.whole()
			x.walks(0, asked(pairs(0, 1, 5, 9, 12)))
		}
		x := newPair(t)
		x.made(0, o)
		x.asked(call{name: "cursor", k: 0, to: greatest}, answer{})
		for _, c := range []call{{name: "clear"}, {name: "wipe", k: 0, to: greatest}, {name: "decode", bytes: bytesOf(t, o.Map, nil)}} {
			x.ask(c)
			x.asked(call{name: "version"}, answer{}, o, c)
			x.asked(call{name: "step"}, failed(api.ErrEnd), o, c)
		}
	}
}

// TestVersionOfValues: one more where no key, but a value was changed; a cursor goes on.
func TestVersionOfValues(t *testing.T) {
	for _, tag := range tags() {
		x := threeHandles(t, one(tag, true))
		l := pairs(2, 1, 5, 9, 12)
		x.asked(call{name: "put", k: 5, to: l[1].Value + 1}, answer{})
		x.asked(call{name: "version"}, answer{k: 5})
		x.asked(call{name: "put", k: 5, to: l[1].Value + 1}, answer{})
		x.asked(call{name: "version"}, answer{k: 5}, "the same value")
		x.asked(call{name: "step"}, answer{k: 9})
		x.asked(call{name: "decode", bytes: bytesOf(t, true, l)}, answer{})
		x.asked(call{name: "version"}, answer{k: 6}, "other values of the same keys")
		x.asked(call{name: "step"}, answer{k: 12})
		x.asked(call{name: "decode", bytes: bytesOf(t, true, pairs(3, 1, 5, 9, 12))}, answer{})
		x.asked(call{name: "version"}, answer{k: 7}, "other values of the same keys, but for some")
		x.asked(call{name: "decode", bytes: bytesOf(t, true, pairs(3, 1, 5, 9, 12))}, answer{})
		x.asked(call{name: "version"}, answer{k: 7}, "the same values")
		x.asked(call{name: "step", back: true}, answer{k: 12})
		x.asked(call{name: "decode", bytes: bytesOf(t, true, append(pairs(3, 1, 5, 9), p(12, 1<<60)))}, answer{})
		x.asked(call{name: "version"}, answer{k: 8}, "another value of the last key alone")
		x.asked(call{name: "decode", bytes: bytesOf(t, true, bare(append(l, p(13, 0))))}, answer{})
		x.asked(call{name: "version"}, answer{k: 9}, "a key, and values")
		x.refused(call{name: "step"}, api.ErrStale)
		x.asked(call{name: "put", k: 13, to: 0}, answer{})
		x.asked(call{name: "version"}, answer{k: 9}, "the same value, 0")
		x.asked(call{name: "put", k: 14, to: 0}, answer{})
		x.asked(call{name: "version"}, answer{k: 10}, "a key of the value 0")
		x.asked(call{name: "put", k: 15, to: 7}, answer{})
		x.asked(call{name: "version"}, answer{k: 11}, "a key of another value")
		x.asked(call{name: "wipe", k: 14, to: 14}, answer{n: 1})
		x.asked(call{name: "version"}, answer{k: 12}, "a key was wiped")
		x.whole()
	}
}

// TestCursorsAreTheirHandles: none moves another.
func TestCursorsAreTheirHandles(t *testing.T) {
	for _, o := range kinds() {
		x := threeHandles(t, o)
		x.asked(call{name: "cursor", h: 2, k: 0, to: 9}, answer{})
		x.asked(call{name: "step", h: 2}, answer{k: 1})
		x.asked(call{name: "step"}, answer{k: 9})
		x.asked(call{name: "step", h: 2}, answer{k: 5})
		x.asked(call{name: "seek", h: 2, k: 9}, answer{k: 9})
		x.asked(call{name: "step", back: true}, answer{k: 9})
		x.asked(call{name: "insert", h: 2, k: 3}, answer{})
		x.asked(call{name: "step", back: true}, answer{k: 5})
		x.refused(call{name: "step", h: 2}, api.ErrStale)
		x.asked(call{name: "cursor", h: 2, k: 0, to: 9}, answer{})
		x.asked(call{name: "clear"}, answer{})
		x.asked(call{name: "step", h: 2}, answer{k: 1})
		x.asked(call{name: "close"}, answer{})
		x.asked(call{name: "step", h: 2}, answer{k: 3})
		x.refused(call{name: "step", h: 1}, api.ErrNone)
	}
}

// TestUsed is what the Set's page says, of a map its keys'.
func TestUsed(t *testing.T) {
	for _, o := range kinds() {
		s := shelf.New()
		same(t, s.Open(3, o), api.OK, "Open")
		f, e := face.New(o.Tag, 99, api.MaxCap)
		same(t, e, api.OK, "layer 20's New")
		for _, k := range shuffled(slices.Concat(far(100), spread(0, 300, 7)), 3) {
			same(t, s.Insert(3, k), api.OK, "Insert")
			f.Insert(k)
			n, e := s.Used(3)
			same(t, number(n, e), answer{n: f.Used()}, "Used", o)
		}
	}
}

func TestNil(t *testing.T) {
	var s *shelf.Shelf
	for _, h := range append(wrongHandles(), 0, 1, 7) {
		same(t, s.Taken(h), false, "Taken", h)
		for _, c := range callsOf(h, 0, h) {
			same(t, ask(s, c), failed(api.ErrHandle), "a nil one", c)
		}
		same(t, s.Join(0, h), api.ErrHandle, "Join of none")
	}
}

// P25.5

// TestErrorsChangeNothing: behind each call that answers an error all handles have what they had.
func TestErrorsChangeNothing(t *testing.T) {
	for turn, o := range kinds() {
		x := newPair(t)
		// The first four have no room for a key more.
		for h := range api.MaxHandles {
			y := kinds()[(h+turn)%10]
			l := pairs(uint64(h), spread(uint64(h), 12, 1<<30)...)
			if h < 4 {
				y = with(y, fits(t, y, l))
			}
			x.made(h, y, l...)
			x.asked(call{name: "cursor", h: h, k: 1 << 30, to: greatest}, answer{})
			for range h % 3 {
				x.ask(call{name: "step", h: h})
			}
		}
		x.asked(call{name: "close", h: 6}, answer{})
		fulls := 0
		for h := -1; h <= api.MaxHandles; h++ {
			for _, c := range callsOf(h, 5, 6, h) {
				// These would leave nothing that could be full.
				if !slices.Contains([]string{"close", "clear", "decode"}, c.name) {
					x.tried(c)
				}
			}
			for _, c := range []call{
				{name: "insert", k: 1 << 60}, {name: "put", k: 1 << 60, to: 1}, {name: "insert", k: uint64(h)}, {name: "delete", k: 1 << 60}, {name: "get", k: 1 << 60},
				{name: "next", k: greatest}, {name: "prev"}, {name: "select", i: 12}, {name: "select", i: -1}, {name: "count", k: 2, to: 1}, {name: "wipe", k: 2, to: 1},
				{name: "join", i: 0, of: []int{0, 1, 2, 3, 4, 5, 7}}, {name: "join", i: 3, of: []int{0, 1, 4}}, {name: "join", i: 7},
				{name: "decode"}, {name: "decode", bytes: []byte{9}}, {name: "decode", bytes: []byte{1, 1, 5}}, {name: "decode", bytes: bytesOf(t, false, pairs(1, spread(1, 60, 1<<57)...))}, {name: "decode", bytes: bytesOf(t, true, pairs(1, spread(1, 60, 1<<57)...))},
				{name: "cursor", k: 3, to: 2}, {name: "open", options: o},
			} {
				c.h = h
				if x.tried(c) == api.ErrFull {
					fulls++
				}
			}
		}
		same(t, fulls >= 10, true, "so many were full", fulls, turn)
		x.whole()
	}
}

// tried is the error that a call answers, which then changes nothing.
func (x *pair) tried(c call) api.Errno {
	x.t.Helper()
	was := seen(x.s)
	a := x.ask(c)
	if a.e != api.OK {
		same(x.t, a, failed(a.e), "what is answered beside an error", c)
		same(x.t, seen(x.s), was, "what is told behind an error", c)
	}
	return a.e
}
