package shell_test

import (
	"fmt"
	"math/bits"
	"slices"
	"strings"
	"testing"

	"stepstone/api"
	"stepstone/shelf"
)

// near are keys that meet often: near 0, near the greatest, and some far ones.
func near(number func(n int) int) uint64 {
	k := uint64(number(80))
	switch number(6) {
	case 0:
		return greatest - k
	case 1:
		return k * 0x9e3779b97f4a7c15
	case 2:
		return k << 16
	}
	return k
}

// handle is one that there is, mostly.
func handle(number func(n int) int) int {
	if number(40) == 0 {
		return number(12)
	}
	return number(api.MaxHandles)
}

// often is the first words, those more often that change something.
func often() []string {
	l := slices.DeleteFunc(firstWords(), func(word string) bool { return word == "close" || word == "clear" })
	return append(l, "open", "insert", "insert", "insert", "insert", "insert", "put", "put", "put", "put", "put", "delete", "delete", "wipe", "cursor", "step", "step", "step", "seek", "decode")
}

// draw is a call by the numbers that are drawn. Of what it opens the tag is another one by the turn, and the seed, too; nothing else hangs on that.
func draw(number func(n int) int, turn int) call {
	c := call{word: often()[number(len(often()))], h: handle(number), i: handle(number), k: near(number), v: near(number), back: number(3) == 0, limit: room}
	if number(100) == 0 {
		c.word = []string{"close", "clear"}[number(2)]
	}
	switch tag := number(5); c.word {
	case "open":
		c.isMap, c.tag, c.seed = number(2) == 0, 1+(tag+turn)%5, uint64(turn)*0x9e3779b97f4a7c15
	case "wipe":
		c.v = c.k + uint64(number(20)) - 1
	case "join":
		c.i = number(4)
		if number(20) == 0 {
			c.i = number(9)
		}
		for range number(5) {
			c.of = append(c.of, number(api.MaxHandles))
		}
	case "select":
		c.i = number(30)
	case "decode":
		c.p = drawnBytes(number)
	}
	return c
}

// drawnBytes are those of keys or pairs, or are spoilt, or none.
func drawnBytes(number func(n int) int) []byte {
	n, pairs := number(6), number(2)
	p := []byte{byte(pairs), byte(n)}
	for range n * (1 + pairs) {
		p = append(p, []byte{byte(number(128))}...)
	}
	switch number(10) {
	case 0:
		p[number(len(p))] += byte(number(256))
	case 1:
		p = p[:number(len(p))]
	}
	return p
}

// opened are the calls that open all handles: sets and maps of all tags.
func opened(turn, limit int) []call {
	var l []call
	for h := range api.MaxHandles {
		l = append(l, call{word: "open", h: h, isMap: h%3 == 1, tag: 1 + (h+turn)%5, seed: uint64(turn * h), limit: limit})
	}
	return l
}

// drawn is n calls, ahead of which all handles are opened.
func drawn(number func(n int) int, n, turn int) []call {
	l := opened(turn, room)
	for range n {
		l = append(l, draw(number, turn))
	}
	return l
}

// script is lines that are told at last, and what they must answer by a shelf that is asked meanwhile.
type script struct {
	t           *testing.T
	s           *shelf.Shelf
	lines, want []string
	bytes       int
	fulls       map[string]int
}

func newScript(t *testing.T) *script {
	return &script{t: t, s: shelf.New(), fulls: map[string]int{}}
}

// do is what the shelf answers.
func (x *script) do(c call) string {
	answer := ask(x.s, c)
	x.lines, x.want = append(x.lines, c.line()), append(x.want, answer)
	x.bytes += len(c.line()) + 1
	return answer
}

// state is lines that tell all, and what the shelf answers to them.
func state(s *shelf.Shelf) (lines, want []string) {
	for h := range api.MaxHandles {
		for _, word := range []string{"all", "version"} {
			c := call{word: word, h: h}
			lines, want = append(lines, c.line()), append(want, ask(s, c))
		}
	}
	return lines, want
}

// play does a call; where it is full, the lines behind it ask whether anything was changed.
func (x *script) play(c call) {
	lines, want := state(x.s)
	if x.do(c) != "error 5" {
		return
	}
	x.fulls[c.word]++
	x.lines, x.want = append(x.lines, lines...), append(x.want, want...)
	for _, line := range lines {
		x.bytes += len(line) + 1
	}
}

// run tells the lines.
func (x *script) run(about ...any) {
	x.t.Helper()
	lines, want := state(x.s)
	sayLines(x.t, append(x.lines, lines...), append(x.want, want...), about...)
}

// full tells whether there is no room for many lines more.
func (x *script) full() bool { return x.bytes > 17500 }

// P27.1: scripts

// TestScripts: with room enough, each line is the shelf's call; and all is answered alike, whichever the tags and the seeds are.
func TestScripts(t *testing.T) {
	all := map[string]int{}
	for seed := range uint64(40) {
		var first []string
		for turn := range 5 {
			x := newScript(t)
			for _, c := range drawn(numbers(seed), 950, turn) {
				x.do(c)
			}
			x.run(seed, turn)
			if turn == 0 {
				first = x.want
			}
			same(t, slices.Equal(x.want, first), true, "other tags and seeds answer the same", seed, turn)
			for i, line := range x.lines {
				word, _, _ := strings.Cut(line, " ")
				if all[word]++; strings.HasPrefix(x.want[i], "error") {
					all[word+" "+x.want[i]]++
				}
				same(t, x.want[i] != "error 5" && x.want[i] != "error 12", true, "room enough", line)
			}
		}
	}
	for _, word := range append(firstWords(), "insert error 4", "delete error 3", "put error 11", "get error 11", "get error 3", "step error 9", "step error 10", "step error 3", "seek error 9", "seek error 10", "select error 7", "count error 8", "cursor error 8", "join error 11", "join error 1", "join error 6", "decode error 2", "len error 6", "open error 4") {
		same(t, all[word] > 20, true, "so many of these", word, all[word])
	}
}

// TestTightScripts: what is full is an error, and nothing is changed; all else is the shelf's call.
func TestTightScripts(t *testing.T) {
	limits := [][]int{1: {0, 1, 3, 7, 20}, 2: {66, 100, 300, 700}, 3: {68, 75, 205, 300}, 4: {11, 21, 40, 90}, 5: {2, 3, 10, 30}}
	all := map[string]int{}
	for seed := range uint64(150) {
		x := newScript(t)
		number := numbers(seed)
		tight := func(c call) call {
			if c.word == "open" {
				c.limit = limits[c.tag][number(len(limits[c.tag]))]
			}
			return c
		}
		for _, c := range opened(int(seed), room) {
			x.play(tight(c))
		}
		for !x.full() {
			x.play(tight(draw(number, int(seed))))
		}
		x.run(seed)
		for word, n := range x.fulls {
			all[word] += n
		}
	}
	for _, word := range []string{"insert", "put", "join", "decode"} {
		same(t, all[word] > 20, true, "some of these were full", word, all)
	}
}

// shuffled is in an order by the seed.
func shuffled(l []uint64, seed uint64) []uint64 {
	l, number := slices.Clone(l), numbers(seed)
	for i := range l {
		j := number(i + 1)
		l[i], l[j] = l[j], l[i]
	}
	return l
}

// typed are keys of all sizes, some of them more than once.
func typed(seed uint64, n int) []uint64 {
	number := numbers(seed)
	var l []uint64
	for range n {
		k := uint64(number(1<<31))<<33 ^ uint64(number(1<<31))<<2 ^ uint64(number(4))
		l = append(l, bits.Reverse64(k)>>number(65))
	}
	return append(l, 0, 1, 9, 10, 99, 100, 1<<63-1, 1<<63, greatest-1, greatest, l[0], l[n/2])
}

// rising is these keys, each once.
func rising(l []uint64) []uint64 {
	r := slices.Clone(l)
	slices.Sort(r)
	return slices.Compact(r)
}

// TestTypedKeys are told rising, by their numbers, each once, alike in the five ways.
func TestTypedKeys(t *testing.T) {
	for seed := range uint64(20) {
		l := shuffled(typed(seed, 200), seed)
		var keys, pairs []string
		for _, k := range rising(l) {
			keys, pairs = append(keys, fmt.Sprint(k)), append(pairs, fmt.Sprintf("%d:%d", k, k/3))
		}
		for _, tag := range tagNames()[1:] {
			lines, want := ofTag(tag, "open 3 set TAG 5 1048576", "open 4 map TAG 5 1048576"), []string{"ok", "ok"}
			seen := map[uint64]bool{}
			for _, k := range l {
				lines, want = append(lines, fmt.Sprintf("insert 3 %d", k)), append(want, either(seen[k], "error 4", "ok"))
				lines, want = append(lines, fmt.Sprintf("put 4 %d %d", k, k/3)), append(want, "ok")
				seen[k] = true
			}
			lines, want = append(lines, "all 3", "all 4", "len 3", "len 4", "equal 3 4"), append(want, strings.Join(keys, " "), strings.Join(pairs, " "), fmt.Sprint(len(keys)), fmt.Sprint(len(keys)), "yes")
			lines, want = append(lines, "cursor 3 0 18446744073709551615", "cursor 4 0 18446744073709551615"), append(want, "ok", "ok")
			for _, k := range keys[:60] {
				lines, want = append(lines, "step 3 next", "step 4 next"), append(want, k, k)
			}
			sayLines(t, lines, want, seed, tag)
		}
	}
}

// TestMovedKeys: what encode answers, typed into decode of a handle of any tag, makes the same keys, or pairs; of the other sort it is refused.
func TestMovedKeys(t *testing.T) {
	for seed := range uint64(10) {
		l := typed(seed, 40)
		for _, from := range tagNames()[1:] {
			x := ofTag(from, "open 0 set TAG 1 1048576", "open 1 map TAG 2 1048576")
			for _, k := range l {
				x = append(x, fmt.Sprintf("insert 0 %d", k), fmt.Sprintf("put 1 %d %d", k, k+7))
			}
			x = append(x, "encode 0", "encode 1", "all 0", "all 1")
			got := answers(t, x)
			told := got[len(got)-4:]
			for _, to := range tagNames()[1:] {
				says(t, ofTag(to,
					"open 6 set TAG 3 1048576 = ok", "open 7 map TAG 4 1048576 = ok", "insert 6 5000 = ok", "put 7 5000 1 = ok",
					"decode 6 "+told[1]+" = error 2", "decode 7 "+told[0]+" = error 2", "all 6 = 5000", "all 7 = 5000:1",
					"decode 6 "+told[0]+" = ok", "decode 7 "+told[1]+" = ok", "all 6 = "+told[2], "all 7 = "+told[3], "encode 6 = "+told[0], "encode 7 = "+told[1], "equal 6 7 = yes",
				)...)
			}
		}
	}
}

// TestMovedWithin a script: bytes of one handle are told to another one as it goes on, whole ones and spoilt ones.
func TestMovedWithin(t *testing.T) {
	moved := 0
	for seed := range uint64(30) {
		x := newScript(t)
		number := numbers(seed)
		for _, c := range opened(int(seed), room) {
			x.do(c)
		}
		for !x.full() {
			c := draw(number, int(seed))
			if c.word == "decode" {
				c.p, _ = x.s.Encode(number(api.MaxHandles))
				if len(c.p) > 0 && number(5) == 0 {
					c.p[number(len(c.p))]++
				}
			}
			if x.do(c) == "ok" && c.word == "decode" {
				moved++
			}
		}
		x.run(seed)
	}
	same(t, moved > 50, true, "some of these were moved", moved)
}
