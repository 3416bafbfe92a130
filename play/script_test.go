package play_test

import (
	"slices"
	"testing"

	"stepstone/api"
	"stepstone/play"
	"stepstone/shelf"
)

// near are keys that meet often: near 0, near the greatest, and some far ones.
func near(number func(n int) int) uint64 {
	k := uint64(number(80))
	switch number(6) {
	case 0:
		return greatest - k
	case 1:
		return k * 0x9e3779b97f4a7c15
	case 2:
		return k << 16
	}
	return k
}

// handle is one that there is, mostly.
func handle(number func(n int) int) int {
	if number(40) == 0 {
		return number(10) - 1
	}
	return number(api.MaxHandles)
}

// drawn is a step by the numbers that are drawn. Of what it opens the tag is another one by the turn, and the seed, too; nothing else hangs on that.
func drawn(number func(n int) int, turn int) play.Step {
	often := []byte{open, open, insert, insert, insert, insert, insert, put, put, put, put, put, drop, drop, drop, wipe, cursor, step, step, step, step, seek}
	do := byte(number(24))
	switch n := number(60); {
	case n == 0:
		do = byte(24 + number(232))
	case n < 40 || do == shut || do == empty:
		do = often[number(len(often))]
	}
	s := play.Step{Do: do, H: handle(number), I: number(40) - 1, K: near(number), To: near(number), Back: number(3) == 0}
	switch tag := number(5); do {
	case open:
		s.Map, s.Tag, s.Seed, s.Limit = number(2) == 0, 1+(tag+turn)%5, uint64(turn*tag), api.MaxCap
	case wipe:
		s.To = s.K + uint64(number(20)) - 1
		if number(100) == 0 {
			s.Do = []byte{shut, empty}[number(2)]
		}
	case join:
		s.I = number(4)
		if number(20) == 0 {
			s.I = number(9) - 3
		}
		for range number(5) {
			s.Of = append(s.Of, number(api.MaxHandles))
		}
	case equal, within:
		s.I = handle(number)
	case decode:
		s.P = []byte{byte(number(2)), byte(number(3))}
		for range number(7) {
			s.P = append(s.P, byte(number(130)))
		}
	}
	return s
}

// script is n steps, ahead of which all handles are opened; some of its steps are wrong.
func script(number func(n int) int, n, turn int) []play.Step {
	var l []play.Step
	for h := range api.MaxHandles {
		s := opened(h, 1+(h+turn)%5, h%3 == 1, api.MaxCap)
		s.Seed = uint64(turn) * 0x9e3779b97f4a7c15
		l = append(l, s)
	}
	for range n {
		l = append(l, drawn(number, turn))
	}
	return l
}

// P26.3

// TestScripts: with room enough all is answered as by lists of pairs, whichever the tags and the seeds are.
func TestScripts(t *testing.T) {
	for seed := range uint64(6) {
		m := &table{}
		var want []play.Answer
		var whole []string
		for _, s := range script(numbers(seed), 4000, 0) {
			want = append(want, m.do(s))
		}
		whole = m.whole()
		for turn := range 5 {
			l := script(numbers(seed), 4000, turn)
			p, q := play.New(), play.New()
			told2(t, p.Run(l...), want, "Run", seed, turn)
			for i, s := range l {
				told(t, q.Do(s), want[i], "Do", seed, turn, i)
			}
			for _, x := range []*play.Player{p, q} {
				list(t, texts(x.Whole()), whole, "Whole", seed, turn)
				same(t, x.Done(), len(l), "Done", seed, turn)
				same(t, x.Fulls(), 0, "Fulls", seed, turn)
			}
		}
		same(t, m.done, 4008, "so many steps")
	}
}

// TestMovedKeys: bytes of one handle are told to another one, as a script goes on.
func TestMovedKeys(t *testing.T) {
	p, m := play.New(), &table{}
	number := numbers(3)
	for i, s := range script(number, 4000, 1) {
		if s.Do == decode && number(3) > 0 {
			s.P = p.Do(play.Step{Do: encode, H: number(api.MaxHandles)}).P
			if len(s.P) > 0 && number(6) == 0 {
				s.P[number(len(s.P))]++
			}
		}
		told(t, p.Do(s), m.do(s), "Do", i, s)
	}
	list(t, texts(p.Whole()), m.whole(), "Whole")
}

// mightBeFull are the calls that may answer ErrFull.
func mightBeFull() []byte { return []byte{insert, put, drop, wipe, join, decode} }

// holds is a player, and the plain one that it is held against: what is full changes nothing.
type holds struct {
	t     *testing.T
	p     *play.Player
	m     *table
	fulls map[byte]int
}

func (x *holds) do(s play.Step) {
	x.t.Helper()
	a := x.p.Do(s)
	if a.E != api.ErrFull || !slices.Contains(mightBeFull(), s.Do) {
		told(x.t, a, x.m.do(s), "Do", s)
		return
	}
	told(x.t, a, failed(api.ErrFull), "what is told beside ErrFull", s)
	x.m.done++
	x.fulls[s.Do]++
	for h := range api.MaxHandles {
		c := play.Step{Do: version, H: h}
		told(x.t, ask(x.p.Shelf, c), x.m.do(c), "version behind ErrFull", s, h)
		x.m.done--
	}
	list(x.t, texts(x.p.Whole()), x.m.whole(), "Whole behind ErrFull", s)
}

// total is how many were full.
func (x *holds) total() int {
	n := 0
	for _, i := range x.fulls {
		n += i
	}
	return n
}

// TestTightScripts: with limits that are tight each ErrFull changes nothing, and all else is answered as by lists of pairs.
func TestTightScripts(t *testing.T) {
	limits := [][]int{1: {0, 1, 3, 7, 20}, 2: {66, 100, 300, 700}, 3: {68, 75, 205, 300}, 4: {11, 21, 40, 90}, 5: {2, 3, 10, 30}}
	all := map[byte]int{}
	for seed := range uint64(8) {
		number := numbers(seed)
		x := &holds{t, play.New(), &table{}, map[byte]int{}}
		for _, s := range script(numbers(seed+100), 4000, int(seed)) {
			if s.Do == open {
				s.Limit = limits[s.Tag][number(len(limits[s.Tag]))]
			}
			if s.Do == decode && number(2) > 0 {
				s.P = x.p.Whole()[number(api.MaxHandles)]
			}
			x.do(s)
		}
		list(t, texts(x.p.Whole()), x.m.whole(), "Whole", seed)
		same(t, x.p.Done(), x.m.done, "Done", seed)
		same(t, x.p.Fulls(), x.total(), "Fulls", seed)
		for do, n := range x.fulls {
			all[do] += n
		}
	}
	for _, do := range []byte{insert, put, join, decode} {
		same(t, all[do] > 20, true, "some of these were full", do, all)
	}
}

// TestTightBoxes: of tag 5 what is to leave may be full, too.
func TestTightBoxes(t *testing.T) {
	for _, isMap := range []bool{false, true} {
		x := &holds{t, play.New(), &table{}, map[byte]int{}}
		x.do(opened(3, api.Roar, isMap, 4200))
		// A map has at most 4200 values, too.
		add, few := insert, uint64(3165)
		if isMap {
			add, few = put, 95
		}
		for k := range uint64(4097) {
			x.do(play.Step{Do: add, H: 3, K: k*3 + 1<<20, To: k})
		}
		for k := range few {
			x.do(play.Step{Do: add, H: 3, K: k*20 + 5, To: k})
		}
		number := numbers(4)
		for n := range 600 {
			k := uint64(4090+number(10))*3 + 1<<20
			if number(2) == 0 {
				k = (few+uint64(number(20)))*20 + 5
			}
			x.do(play.Step{Do: []byte{add, add, drop, wipe}[number(4)], H: 3, K: k, To: k})
			if n%50 == 0 {
				list(t, texts(x.p.Whole()), x.m.whole(), "Whole", n)
			}
		}
		for _, do := range []byte{add, drop, wipe} {
			same(t, x.fulls[do] > 0, true, "some of these were full", isMap, do, x.fulls)
		}
	}
}

// TestAsByTheShelf: each step is the shelf's call, in a script with room, and in one without.
func TestAsByTheShelf(t *testing.T) {
	for seed := range uint64(4) {
		p, q := play.New(), shelf.New()
		for i, s := range script(numbers(seed+50), 3000, int(seed)) {
			if seed%2 == 1 {
				s.Limit = min(s.Limit, 100)
			}
			told(t, p.Do(s), ask(q, s), "Do", i, s)
		}
		for h := range api.MaxHandles {
			told(t, ask(p.Shelf, play.Step{Do: encode, H: h}), ask(q, play.Step{Do: encode, H: h}), "encode", h)
			same(t, p.Taken(h), q.Taken(h), "Taken", h)
		}
	}
}
