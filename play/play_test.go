package play_test

import (
	"math"
	"slices"
	"testing"

	"stepstone/api"
	"stepstone/play"
	"stepstone/shelf"
)

// opened is a step that opens a handle.
func opened(h, tag int, isMap bool, limit int) play.Step {
	return play.Step{Do: open, H: h, Map: isMap, Tag: tag, Seed: 3, Limit: limit}
}

// answered is a step, and what it must answer.
type answered struct {
	s    play.Step
	want play.Answer
}

// plays lets a player do these.
func plays(t *testing.T, p *play.Player, l ...answered) {
	t.Helper()
	for i, x := range l {
		told(t, p.Do(x.s), x.want, "Do", i, x.s)
	}
}

// P26.1

// TestExample: open 0 (trie, 100), insert 5, len: N = 1.
func TestExample(t *testing.T) {
	p := play.New()
	told2(t, p.Run(opened(0, api.Trie, false, 100), play.Step{Do: 2, K: 5}, play.Step{Do: 9}), []play.Answer{{}, {}, {N: 1}}, "Run")
}

// TestEachDo, by its number, by hand.
func TestEachDo(t *testing.T) {
	for _, tag := range tags() {
		p := play.New()
		same(t, p != nil, true, "New")
		plays(t, p,
			answered{play.Step{Do: 0, H: 2, Tag: tag, Seed: 9, Limit: 1000}, play.Answer{}},
			answered{play.Step{Do: 0, H: 3, Map: true, Tag: 1 + tag%5, Seed: 9, Limit: 1000}, play.Answer{}},
			answered{play.Step{Do: 0, H: 2, Tag: tag, Limit: 1000}, failed(api.ErrExists)},
			answered{play.Step{Do: 0, H: 4, Tag: 6, Limit: 1000}, failed(api.ErrArg)},
			answered{play.Step{Do: 0, H: 4, Tag: tag, Limit: -1}, failed(api.ErrArg)},
			answered{play.Step{Do: 0, H: 8, Tag: tag, Limit: 1000}, failed(api.ErrHandle)},
			answered{play.Step{Do: 2, H: 2, K: 5}, play.Answer{}},
			answered{play.Step{Do: 2, H: 2, K: 5}, failed(api.ErrExists)},
			answered{play.Step{Do: 3, H: 3, K: 5, To: 77}, play.Answer{}},
			answered{play.Step{Do: 3, H: 3, K: 9, To: 1}, play.Answer{}},
			answered{play.Step{Do: 3, H: 2, K: 9, To: 1}, failed(api.ErrKind)},
			answered{play.Step{Do: 5, H: 3, K: 5}, play.Answer{K: 77}},
			answered{play.Step{Do: 5, H: 3, K: 6}, failed(api.ErrNone)},
			answered{play.Step{Do: 5, H: 2, K: 5}, failed(api.ErrKind)},
			answered{play.Step{Do: 6, H: 3, K: 5}, play.Answer{Yes: true}},
			answered{play.Step{Do: 6, H: 3, K: 6}, play.Answer{}},
			answered{play.Step{Do: 7, H: 3, K: 6}, play.Answer{K: 9}},
			answered{play.Step{Do: 7, H: 3, K: 10}, failed(api.ErrNone)},
			answered{play.Step{Do: 8, H: 3, K: 8}, play.Answer{K: 5}},
			answered{play.Step{Do: 8, H: 3, K: 4}, failed(api.ErrNone)},
			answered{play.Step{Do: 9, H: 3}, play.Answer{N: 2}},
			answered{play.Step{Do: 10, H: 3, K: 6}, play.Answer{N: 1}},
			answered{play.Step{Do: 11, H: 3, I: 1}, play.Answer{K: 9}},
			answered{play.Step{Do: 11, H: 3, I: 2}, failed(api.ErrIndex)},
			answered{play.Step{Do: 12, H: 3, K: 5, To: 9}, play.Answer{N: 2}},
			answered{play.Step{Do: 12, H: 3, K: 9, To: 5}, failed(api.ErrOrder)},
			answered{play.Step{Do: 16, H: 2, I: 3}, play.Answer{}},
			answered{play.Step{Do: 17, H: 2, I: 3}, play.Answer{Yes: true}},
			answered{play.Step{Do: 17, H: 3, I: 2}, play.Answer{}},
			answered{play.Step{Do: 16, H: 2, I: 4}, failed(api.ErrHandle)},
			answered{play.Step{Do: 15, H: 2, I: 3, Of: []int{2, 3}}, play.Answer{}},
			answered{play.Step{Do: 18, H: 2}, play.Answer{P: []byte{0, 1, 9}}},
			answered{play.Step{Do: 15, H: 2, I: 0, Of: []int{3, 2}}, play.Answer{}},
			answered{play.Step{Do: 16, H: 2, I: 3}, play.Answer{Yes: true}},
			answered{play.Step{Do: 15, H: 3, I: 0, Of: []int{2}}, failed(api.ErrKind)},
			answered{play.Step{Do: 15, H: 2, I: 4, Of: []int{2}}, failed(api.ErrArg)},
			answered{play.Step{Do: 18, H: 3}, play.Answer{P: []byte{1, 2, 5, 77, 3, 1}}},
			answered{play.Step{Do: 19, H: 3, P: []byte{1, 3, 1, 8, 3, 70, 0, 0}}, play.Answer{}},
			answered{play.Step{Do: 19, H: 3, P: []byte{0, 0}}, failed(api.ErrForm)},
			answered{play.Step{Do: 23, H: 3}, play.Answer{K: 3}},
			answered{play.Step{Do: 21, H: 3}, failed(api.ErrNone)},
			answered{play.Step{Do: 22, H: 3}, failed(api.ErrNone)},
			answered{play.Step{Do: 20, H: 3, K: 6, To: 2}, failed(api.ErrOrder)},
			answered{play.Step{Do: 20, H: 3, K: 2, To: 6}, play.Answer{}},
			answered{play.Step{Do: 21, H: 3}, play.Answer{K: 5}},
			answered{play.Step{Do: 21, H: 3}, play.Answer{K: 6}},
			answered{play.Step{Do: 21, H: 3}, failed(api.ErrEnd)},
			answered{play.Step{Do: 21, H: 3, Back: true}, play.Answer{K: 6}},
			answered{play.Step{Do: 22, H: 3, K: 1}, play.Answer{K: 5}},
			answered{play.Step{Do: 22, H: 3, K: 7}, failed(api.ErrEnd)},
			answered{play.Step{Do: 4, H: 3, K: 1}, play.Answer{}},
			answered{play.Step{Do: 4, H: 3, K: 1}, failed(api.ErrNone)},
			answered{play.Step{Do: 21, H: 3}, failed(api.ErrStale)},
			answered{play.Step{Do: 13, H: 3, K: 6, To: 9}, play.Answer{N: 1}},
			answered{play.Step{Do: 13, H: 3, K: 9, To: 6}, failed(api.ErrOrder)},
			answered{play.Step{Do: 5, H: 3, K: 5}, play.Answer{K: 70}},
			answered{play.Step{Do: 14, H: 3}, play.Answer{}},
			answered{play.Step{Do: 9, H: 3}, play.Answer{}},
			answered{play.Step{Do: 23, H: 3}, play.Answer{K: 6}},
			answered{play.Step{Do: 1, H: 3}, play.Answer{}},
			answered{play.Step{Do: 1, H: 3}, failed(api.ErrHandle)},
			answered{play.Step{Do: 9, H: 3}, failed(api.ErrHandle)},
			answered{play.Step{Do: 24, H: 2}, failed(api.ErrArg)},
			answered{play.Step{Do: 255, H: 2}, failed(api.ErrArg)},
		)
	}
}

// TestOptions: each of those of a step goes to the shelf.
func TestOptions(t *testing.T) {
	for _, isMap := range []bool{false, true} {
		for tag := -1; tag <= 6; tag++ {
			for _, limit := range []int{math.MinInt, -1, 0, 2, 66, 1000, api.MaxCap, api.MaxCap + 1, math.MaxInt} {
				p, s := play.New(), shelf.New()
				c := play.Step{Do: open, H: 1, I: 7, Map: isMap, Tag: tag, Seed: 1 << 40, Limit: limit}
				told(t, p.Do(c), ask(s, c), "open", c)
				same(t, p.Taken(1), s.Taken(1), "Taken", c)
				for k := range uint64(5) {
					for _, do := range []byte{put, insert} {
						c := play.Step{Do: do, H: 1, K: k << 40, To: k}
						told(t, p.Do(c), ask(s, c), "what fits", c, isMap, tag, limit)
					}
				}
				n, e := p.Used(1)
				m, f := s.Used(1)
				same(t, n, m, "Used", c)
				same(t, e, f, "Used", c)
			}
		}
	}
}

// TestOtherDos: all that there aren't.
func TestOtherDos(t *testing.T) {
	p := play.New()
	for h := -1; h <= 8; h++ {
		for do := 24; do < 256; do++ {
			told(t, p.Do(play.Step{Do: byte(do), H: h, I: h, Of: []int{h}, K: 5, To: 9, P: []byte{0, 0}, Tag: 4, Limit: 100}), failed(api.ErrArg), "Do", do)
		}
	}
	same(t, p.Done(), 10*232, "Done")
	same(t, p.Fulls(), 0, "Fulls")
	list(t, texts(p.Whole()), make([]string, 8), "Whole")
}

// TestOtherHandles: with each Do; ErrHandle goes ahead of all.
func TestOtherHandles(t *testing.T) {
	for _, h := range []int{math.MinInt, -1 << 32, -8, -1, 8, 9, 256, 1 << 32, math.MaxInt, 5} {
		p := play.New()
		p.Do(opened(0, 4, true, 1000))
		for do := range byte(24) {
			for _, s := range []play.Step{{}, {I: -1, K: 9, To: 5, P: []byte{9}, Back: true}} {
				s.Do, s.H, s.Of = do, h, []int{0}
				if do != open || h != 5 {
					told(t, p.Do(s), failed(api.ErrHandle), "Do", s)
				}
			}
		}
		told(t, p.Do(play.Step{Do: join, H: 0, I: 9, Of: []int{0, h}}), failed(api.ErrHandle), "join with what isn't open", h)
		told(t, p.Do(play.Step{Do: equal, H: 0, I: h}), failed(api.ErrHandle), "equal to what isn't open", h)
		told(t, p.Do(play.Step{Do: within, H: 0, I: h}), failed(api.ErrHandle), "within what isn't open", h)
	}
}

func TestName(t *testing.T) {
	for do := range 256 {
		want := ""
		if do < 24 {
			want = names()[do]
		}
		same(t, play.Name(byte(do)), want, "Name", do)
	}
}

// TestSame of answers that are alike, and that differ in each field.
func TestSame(t *testing.T) {
	l := []play.Answer{
		{}, {E: 1}, {E: 12}, {K: 1}, {K: greatest}, {N: 1}, {N: -1}, {Yes: true}, {P: []byte{0}}, {P: []byte{0, 0}}, {P: []byte{0, 1}}, {P: []byte{1, 0}},
		{E: 1, K: 1}, {E: 1, K: 1, N: 1}, {E: 1, K: 1, N: 1, Yes: true}, {E: 1, K: 1, N: 1, Yes: true, P: []byte{5}}, {K: 1, N: 1, Yes: true, P: []byte{5}},
	}
	for i, a := range l {
		for j, b := range l {
			same(t, play.Same(a, b), i == j, "Same", a, b)
			c := b
			c.P = append(make([]byte, 0, 9), b.P...)
			same(t, play.Same(a, c), i == j, "Same of bytes elsewhere", a, c)
		}
	}
	same(t, play.Same(play.Answer{P: nil}, play.Answer{P: []byte{}}), true, "nil and empty")
	same(t, play.Same(play.Answer{P: []byte{}}, play.Answer{P: nil}), true, "empty and nil")
	same(t, play.Same(play.Answer{P: []byte{}}, play.Answer{P: []byte{0}}), false, "empty and a byte")
}

// TestMemory: what is handed in isn't changed or kept, and an answer is the caller's own.
func TestMemory(t *testing.T) {
	q := play.New()
	q.Run(opened(0, 4, false, 1000), opened(1, 5, true, 1000), opened(2, 1, false, 1000))
	b := append(make([]byte, 0, 50), 0, 2, 5, 3)
	of := append(make([]int, 0, 50), 0, 1)
	for range 40 {
		b, of = append(b, 77), append(of, 7)
	}
	l := []play.Step{{Do: decode, H: 0, P: b[:4]}, {Do: put, H: 1, K: 9, To: 3}, {Do: join, H: 2, I: 1, Of: of[:2]}}
	told2(t, q.Run(l...), []play.Answer{{}, {}, {}}, "Run")
	list(t, b[:6], []byte{0, 2, 5, 3, 77, 77}, "the bytes that were handed in")
	list(t, of[:4], []int{0, 1, 7, 7}, "the handles that were handed in")
	same(t, len(l), 3, "the steps that were handed in")
	clear(b)
	clear(of)
	clear(l)
	want := []string{"\x00\x02\x05\x03", "\x01\x01\x09\x03", "\x00\x01\x09", "", "", "", "", ""}
	list(t, texts(q.Whole()), want, "Whole")
	for _, x := range q.Whole() {
		clear(x[:cap(x)])
	}
	a := q.Do(play.Step{Do: encode})
	clear(a.P[:cap(a.P)])
	list(t, texts(q.Whole()), want, "Whole behind writing over answers")
	w := q.Whole()
	w[0], w[1] = nil, w[2]
	list(t, texts(q.Whole()), want, "Whole behind writing over it")
}

// P26.2

func TestRun(t *testing.T) {
	for _, tag := range tags() {
		p := play.New()
		same(t, len(p.Run()), 0, "Run of none")
		same(t, p.Done(), 0, "Done behind Run of none")
		told2(t, p.Run(opened(0, tag, true, 1000)), []play.Answer{{}}, "Run of one")
		same(t, p.Done(), 1, "Done behind Run of one")
		l := []play.Step{{Do: put, K: 5, To: 8}, {Do: get, K: 5}, {Do: 99}, {Do: insert, K: 5}, {Do: length}, {Do: length, H: 1}}
		told2(t, p.Run(l...), []play.Answer{{}, {K: 8}, {E: api.ErrArg}, {E: api.ErrExists}, {N: 1}, {E: api.ErrHandle}}, "Run of many", tag)
		same(t, p.Done(), 7, "Done behind Run of many")
		same(t, len(p.Run(nil...)), 0, "Run of nil")
	}
}

func TestWhole(t *testing.T) {
	for _, tag := range tags() {
		p := play.New()
		list(t, texts(p.Whole()), make([]string, api.MaxHandles), "Whole of a new one")
		p.Run(opened(1, tag, false, 1000), opened(2, tag, true, 1000), opened(4, tag, false, 1000), opened(7, tag, true, 1000), opened(5, tag, false, 1000))
		p.Run(play.Step{Do: insert, H: 1, K: 5}, play.Step{Do: put, H: 2, K: 5, To: 7}, play.Step{Do: insert, H: 5, K: 9}, play.Step{Do: shut, H: 5})
		want := []string{"", "\x00\x01\x05", "\x01\x01\x05\x07", "", "\x00\x00", "", "", "\x01\x00"}
		for range 2 {
			list(t, texts(p.Whole()), want, "Whole", tag)
		}
		same(t, p.Done(), 9, "Done: Whole is none")
		told(t, p.Do(play.Step{Do: shut, H: 1}), play.Answer{}, "close")
		want[1] = ""
		list(t, texts(p.Whole()), want, "Whole behind close", tag)
	}
}

// TestWholeOfTooMany: what has more than MaxKeys has no bytes.
func TestWholeOfTooMany(t *testing.T) {
	p := play.New()
	p.Run(opened(0, 5, false, api.MaxCap), opened(1, 5, false, api.MaxCap))
	p.Insert(1, 5)
	for k := range uint64(api.MaxKeys + 1) {
		p.Insert(0, k)
	}
	told(t, p.Do(play.Step{Do: encode}), failed(api.ErrArg), "encode of more than MaxKeys")
	list(t, texts(p.Whole()), []string{"", "\x00\x01\x05", "", "", "", "", "", ""}, "Whole")
}

// TestDoneAndFulls behind each kind of step.
func TestDoneAndFulls(t *testing.T) {
	p := play.New()
	done, fulls := 0, 0
	counted := func(s play.Step, e api.Errno) {
		t.Helper()
		told(t, p.Do(s), failed(e), "Do", s)
		done++
		if e == api.ErrFull {
			fulls++
		}
		same(t, p.Done(), done, "Done", s)
		same(t, p.Fulls(), fulls, "Fulls", s)
	}
	same(t, p.Done()+p.Fulls(), 0, "at first")
	counted(opened(0, api.Trie, false, 11), api.OK)
	counted(opened(0, api.Trie, false, 11), api.ErrExists)
	counted(opened(9, api.Trie, false, 11), api.ErrHandle)
	counted(opened(2, 9, false, 11), api.ErrArg)
	counted(opened(1, api.Trie, true, 12), api.OK)
	counted(play.Step{Do: insert, K: 5}, api.OK)
	counted(play.Step{Do: insert, K: 1 << 40}, api.ErrFull)
	counted(play.Step{Do: insert, K: 5}, api.ErrExists)
	counted(play.Step{Do: insert, K: 1 << 40}, api.ErrFull)
	counted(play.Step{Do: insert, H: 3, K: 1 << 40}, api.ErrHandle)
	counted(play.Step{Do: put, H: 1, K: 5, To: 7}, api.OK)
	counted(play.Step{Do: put, H: 1, K: 1 << 40, To: 7}, api.ErrFull)
	counted(play.Step{Do: put, K: 1 << 40, To: 7}, api.ErrKind)
	counted(play.Step{Do: put, H: 1, K: 64, To: 7}, api.OK)
	counted(play.Step{Do: join, Of: []int{1}}, api.ErrFull)
	counted(play.Step{Do: join, H: 1}, api.ErrKind)
	counted(play.Step{Do: decode, P: []byte{0, 2, 5, 255, 1}}, api.ErrFull)
	counted(play.Step{Do: decode, P: []byte{0, 2, 5}}, api.ErrForm)
	counted(play.Step{Do: decode, H: 1, P: []byte{1, 2, 5, 0, 255, 127, 0}}, api.ErrFull)
	counted(play.Step{Do: 24}, api.ErrArg)
	counted(play.Step{Do: 255, H: -1}, api.ErrArg)
	counted(play.Step{Do: step}, api.ErrNone)
	counted(play.Step{Do: cursor, K: 9, To: 5}, api.ErrOrder)
	counted(play.Step{Do: cursor, To: 5}, api.OK)
	counted(play.Step{Do: empty}, api.OK)
	counted(play.Step{Do: step}, api.ErrStale)
	counted(play.Step{Do: pick}, api.ErrIndex)
	counted(play.Step{Do: shut}, api.OK)
	counted(play.Step{Do: shut}, api.ErrHandle)
	same(t, fulls, 6, "so many were full")
	p.Insert(1, 1<<40)
	p.Len(1)
	p.Whole()
	same(t, p.Done(), done, "Done behind the shelf's own calls")
	same(t, p.Fulls(), fulls, "Fulls behind the shelf's own calls")
	p.Run(play.Step{Do: insert, H: 1, K: 1 << 40}, play.Step{Do: 30}, play.Step{Do: insert, H: 1, K: 1 << 41})
	same(t, p.Done(), done+3, "Done behind Run")
	same(t, p.Fulls(), fulls+2, "Fulls behind Run")
}

// TestShelfsMethods are a player's own: what they change is what Do tells, and the other way round.
func TestShelfsMethods(t *testing.T) {
	q := play.New()
	same(t, q.Taken(0), false, "Taken")
	same(t, q.Open(0, shelf.Options{Tag: api.VEB, Limit: 100, Map: true}), api.OK, "Open")
	same(t, q.Taken(0), true, "Taken")
	same(t, q.Put(0, 5, 9), api.OK, "Put")
	plays(t, q, answered{play.Step{Do: get, K: 5}, play.Answer{K: 9}}, answered{play.Step{Do: put, K: 7, To: 4}, play.Answer{}})
	v, e := q.Get(0, 7)
	same(t, v, 4, "Get")
	same(t, e, api.OK, "Get")
	n, e := q.Used(0)
	same(t, n, 1, "Used")
	same(t, e, api.OK, "Used")
	same(t, q.Cursor(0, 0, 9), api.OK, "Cursor")
	plays(t, q, answered{play.Step{Do: step}, play.Answer{K: 5}})
	k, e := q.Step(0, false)
	same(t, k, 7, "Step")
	same(t, e, api.OK, "Step")
	list(t, texts(q.Whole())[:2], []string{"\x01\x02\x05\x09\x01\x04", ""}, "Whole")
	// One and the same is told by Do, and by the shelf's calls.
	r, m, done := play.New(), &table{}, 0
	for i, c := range script(numbers(5), 3000, 0) {
		if i%2 == 0 {
			told(t, r.Do(c), m.do(c), "Do", c)
			done++
		} else {
			told(t, ask(r.Shelf, c), m.do(c), "the shelf's call", c)
		}
	}
	list(t, texts(r.Whole()), m.whole(), "Whole")
	same(t, r.Done(), done, "Done")
}

func TestPlayersAreTheirOwn(t *testing.T) {
	p, q := play.New(), play.New()
	p.Run(opened(0, 4, false, 100), play.Step{Do: insert, K: 5})
	same(t, q.Taken(0), false, "Taken of another one")
	same(t, q.Done(), 0, "Done of another one")
	list(t, texts(q.Whole()), make([]string, api.MaxHandles), "Whole of another one")
}

func TestNil(t *testing.T) {
	var p *play.Player
	for do := range 256 {
		for _, h := range []int{-1, 0, 7, 8} {
			told(t, p.Do(play.Step{Do: byte(do), H: h, I: h, Of: []int{h}, Tag: 4, Limit: 100}), failed(api.ErrHandle), "Do", do)
		}
	}
	same(t, len(p.Run()), 0, "Run of none")
	same(t, len(p.Run(opened(0, 4, false, 100), play.Step{Do: 99})), 0, "Run")
	same(t, len(p.Whole()), 0, "Whole")
	same(t, p.Done(), 0, "Done")
	same(t, p.Fulls(), 0, "Fulls")
}

// TestAnswersAreZeroBeside an error, and where a field has no meaning.
func TestAnswersAreZeroBeside(t *testing.T) {
	p := play.New()
	fields := [][]byte{{open, shut, insert, put, drop, empty, join, decode, cursor}, {get, next, prev, pick, step, seek, version}, {length, rank, count, wipe}, {has, equal, within}, {encode}}
	for _, s := range script(numbers(8), 5000, 0) {
		a := p.Do(s)
		b := a
		b.E = 0
		if a.E == api.OK {
			i := slices.IndexFunc(fields, func(l []byte) bool { return slices.Contains(l, s.Do) })
			switch i {
			case 1:
				b.K = 0
			case 2:
				b.N = 0
			case 3:
				b.Yes = false
			case 4:
				b.P = nil
			}
		}
		told(t, b, play.Answer{}, "all that isn't told", s, a)
	}
}
