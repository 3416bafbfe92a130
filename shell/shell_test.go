package shell_test

import (
	"fmt"
	"slices"
	"strings"
	"testing"

	"stepstone/api"
	"stepstone/shell"
)

// P27.1: the lines

func TestExample(t *testing.T) {
	told, e := shell.Run("open 0 set trie 1 100\ninsert 0 5\nnext 0 3\n")
	same(t, e, api.OK, "Run")
	same(t, told, "ok\nok\n5\n", "Run")
}

// TestSet: each line of a set, by hand.
func TestSet(t *testing.T) {
	for _, tag := range tagNames()[1:] {
		says(t, ofTag(tag,
			"open 0 set TAG 7 1000 = ok",
			"all 0 = -", "encode 0 = 0000", "len 0 = 0", "version 0 = 0", "rank 0 5 = 0", "count 0 0 18446744073709551615 = 0", "wipe 0 0 18446744073709551615 = 0",
			"next 0 0 = error 3", "prev 0 18446744073709551615 = error 3", "select 0 0 = error 7", "delete 0 5 = error 3", "clear 0 = ok", "has 0 0 = no", "get 0 0 = error 11",
			"insert 0 300 = ok", "insert 0 5 = ok", "insert 0 6 = ok", "insert 0 5 = error 4", "version 0 = 3",
			"all 0 = 5 6 300", "encode 0 = 00030500a502", "len 0 = 3", "has 0 5 = yes", "has 0 4 = no",
			"next 0 7 = 300", "next 0 6 = 6", "next 0 301 = error 3", "prev 0 299 = 6", "prev 0 5 = 5", "prev 0 4 = error 3",
			"rank 0 0 = 0", "rank 0 6 = 1", "rank 0 18446744073709551615 = 3", "select 0 0 = 5", "select 0 2 = 300", "select 0 3 = error 7",
			"count 0 6 300 = 2", "count 0 7 299 = 0", "count 0 7 6 = error 8", "wipe 0 7 6 = error 8",
			"put 0 5 7 = error 11", "get 0 5 = error 11",
			"step 0 next = error 3", "step 0 prev = error 3", "seek 0 5 = error 3",
			"cursor 0 7 6 = error 8", "step 0 next = error 3", "cursor 0 6 400 = ok",
			"step 0 prev = error 10", "step 0 next = 6", "step 0 next = 300", "step 0 next = error 10", "step 0 prev = 300", "step 0 prev = 6", "step 0 prev = error 10",
			"seek 0 0 = 6", "seek 0 7 = 300", "step 0 prev = 6", "seek 0 301 = error 10", "step 0 prev = 300",
			"insert 0 0 = ok", "insert 0 18446744073709551615 = ok", "step 0 next = error 9", "step 0 prev = error 9", "seek 0 5 = error 9",
			"all 0 = 0 5 6 300 18446744073709551615", "next 0 301 = 18446744073709551615", "select 0 4 = 18446744073709551615",
			"delete 0 5 = ok", "delete 0 5 = error 3", "wipe 0 1 300 = 2", "wipe 0 1 300 = 0", "all 0 = 0 18446744073709551615", "version 0 = 7",
			"encode 0 = 000200feffffffffffffffff01", "clear 0 = ok", "all 0 = -", "version 0 = 8", "clear 0 = ok", "version 0 = 8",
			"decode 0 - = error 2", "decode 0 00020503 = ok", "all 0 = 5 9", "decode 0 0002050300 = error 2", "decode 0 01010502 = error 2", "decode 0 ff = error 2", "all 0 = 5 9", "decode 0 0000 = ok", "all 0 = -",
			"close 0 = ok", "close 0 = error 6", "all 0 = error 6",
		)...)
	}
}

// TestMap: each line of a map, by hand.
func TestMap(t *testing.T) {
	for _, tag := range tagNames()[1:] {
		says(t, ofTag(tag,
			"open 7 map TAG 18446744073709551615 1048576 = ok",
			"all 7 = -", "encode 7 = 0100", "len 7 = 0", "version 7 = 0", "get 7 5 = error 3", "get 7 0 = error 3",
			"put 7 300 1 = ok", "put 7 5 18446744073709551615 = ok", "insert 7 6 = ok", "insert 7 5 = error 4", "version 7 = 3",
			"all 7 = 5:18446744073709551615 6:0 300:1", "get 7 5 = 18446744073709551615", "get 7 6 = 0", "get 7 7 = error 3",
			"encode 7 = 010305ffffffffffffffffff010000a50201", "len 7 = 3", "has 7 5 = yes", "has 7 4 = no",
			"next 7 7 = 300", "next 7 301 = error 3", "prev 7 299 = 6", "prev 7 4 = error 3", "rank 7 6 = 1", "select 7 2 = 300", "select 7 3 = error 7",
			"count 7 6 300 = 2", "count 7 7 6 = error 8", "cursor 7 0 400 = ok", "step 7 next = 5",
			"put 7 5 8 = ok", "version 7 = 4", "put 7 5 8 = ok", "version 7 = 4", "step 7 next = 6", "step 7 prev = 6", "seek 7 7 = 300", "cursor 7 1 0 = error 8", "step 7 next = 300",
			"join 0 7 7 = error 11", "join 9 7 = error 11", "wipe 7 7 6 = error 8", "wipe 7 6 6 = 1", "step 7 next = error 9", "all 7 = 5:8 300:1",
			"delete 7 6 = error 3", "delete 7 300 = ok", "all 7 = 5:8", "decode 7 - = error 2", "decode 7 000105 = error 2", "decode 7 0101057f = ok", "all 7 = 5:127",
			"decode 7 0102000000ac02 = ok", "all 7 = 0:0 1:300", "put 7 0 3 = ok", "get 7 0 = 3", "clear 7 = ok", "all 7 = -", "get 7 0 = error 3", "close 7 = ok", "get 7 0 = error 6",
		)...)
	}
}

// TestTogether: the lines of several handles, by hand.
func TestTogether(t *testing.T) {
	for i, tag := range tagNames()[1:] {
		other := tagNames()[1+(i+2)%5]
		says(t, ofTag(tag,
			"open 0 set TAG 1 1000 = ok", "open 1 set "+other+" 2 1000 = ok", "open 2 map TAG 3 1000 = ok", "open 3 set TAG 4 1000 = ok", "open 4 set TAG 5 0 = ok",
			"equal 0 1 = yes", "within 0 1 = yes", "insert 0 5 = ok", "equal 0 1 = no", "within 0 1 = no", "within 1 0 = yes", "equal 0 0 = yes",
			"insert 0 9 = ok", "insert 1 9 = ok", "insert 1 12 = ok", "put 2 9 7 = ok", "put 2 300 7 = ok", "within 0 2 = no",
			"join 0 3 0 1 2 = ok", "all 3 = 5 9 12 300", "within 2 3 = yes", "version 3 = 1",
			"join 1 3 0 1 2 = ok", "all 3 = 9", "within 3 2 = yes", "within 2 3 = no",
			"join 2 3 1 0 2 = ok", "all 3 = 12", "join 2 3 2 1 = ok", "all 3 = 300",
			"join 3 3 0 1 2 = ok", "all 3 = 5 9 12 300", "join 3 3 0 1 = ok", "all 3 = 5 12", "join 3 3 3 3 3 0 = ok", "all 3 = 9 12",
			"join 0 3 0 = ok", "all 3 = 5 9", "equal 3 0 = yes", "equal 0 3 = yes", "join 0 3 2 = ok", "equal 3 2 = yes", "all 3 = 9 300",
			"version 3 = 9", "join 1 3 3 = ok", "version 3 = 9", "join 0 3 = ok", "all 3 = -", "version 3 = 10", "join 1 3 = ok", "join 2 3 = ok", "join 3 3 = ok", "all 3 = -", "version 3 = 10",
			"join 4 3 0 = error 1", "join 999999999 3 = error 1", "join 0 2 0 = error 11", "join 0 5 0 = error 6", "join 0 3 0 5 = error 6", "join 9 2 0 8 = error 6", "join 0 4 0 = error 5", "join 0 4 = ok", "all 4 = -",
			"equal 0 5 = error 6", "equal 5 0 = error 6", "within 0 8 = error 6", "within 8 0 = error 6", "equal 999999999 999999999 = error 6",
			"encode 2 = 01020907a20207", "encode 0 = 00020503",
		)...)
	}
}

// TestNotOpen: error 6 of every line, of what is no handle and of one that isn't open; of open, of the first alone.
func TestNotOpen(t *testing.T) {
	for _, h := range []string{"0", "7", "8", "9", "10", "999999999"} {
		var lines, want []string
		for _, c := range samples() {
			word, behind, _ := strings.Cut(c, " ")
			if word == "join" {
				op, of, _ := strings.Cut(behind, " ")
				_, of, _ = strings.Cut(of, " ")
				lines, want = append(lines, strings.TrimSuffix("join "+op+" "+h+" "+of, " ")), append(want, "error 6")
				continue
			}
			_, behind, more := strings.Cut(behind, " ")
			if word == "open" && len(h) == 1 && h < "8" {
				continue
			}
			lines, want = append(lines, word+" "+h+either(more, " ", "")+behind), append(want, "error 6")
		}
		sayLines(t, lines, want, h)
	}
}

// TestOpen: its errors, and their order.
func TestOpen(t *testing.T) {
	for _, tag := range tagNames()[1:] {
		for _, sort := range []string{"set", "map"} {
			says(t, ofTag(sort+" "+tag,
				"open 0 TAG 0 1048577 = error 1", "open 0 TAG 0 999999999 = error 1", "len 0 = error 6", "open 0 TAG 0 1048576 = ok", "open 0 TAG 0 1048576 = error 4", "open 0 TAG 0 1048577 = error 4",
				"open 8 TAG 0 1048577 = error 6", "open 999999999 TAG 18446744073709551615 5 = error 6", "insert 0 5 = ok", "open 0 TAG 0 5 = error 4", "all 0 = 5"+either(sort == "map", ":0", ""),
				"close 0 = ok", "open 0 TAG 0 0 = ok", "all 0 = -", "insert 0 5 = error 5", "all 0 = -", "version 0 = 0", "step 0 next = error 3",
			)...)
		}
	}
}

// TestFull: error 5 of each line that may have it.
func TestFull(t *testing.T) {
	just := []string{"", "1", "66", "68", "11", "2"}
	for tag, name := range tagNames() {
		if tag == 0 {
			continue
		}
		says(t, ofTag(name,
			"open 0 set TAG 3 "+just[tag]+" = ok", "open 1 map TAG 3 "+just[tag]+" = ok", "open 2 set TAG 3 0 = ok", "open 3 map TAG 3 0 = ok", "open 4 set TAG 3 1000 = ok", "decode 4 000605ffffffffffffff7f00ffffffffff7f00ffffff7f = ok",
			"insert 0 5 = ok", "put 1 5 6 = ok", "put 1 5 7 = ok", "insert 2 5 = error 5", "insert 3 5 = error 5", "put 3 5 5 = error 5", "decode 2 000105 = error 5", "decode 3 01010502 = error 5", "decode 2 0000 = ok", "decode 3 0100 = ok",
			"join 0 2 0 = error 5", "join 0 0 4 = error 5", "join 1 0 4 4 = error 5", "all 0 = 5", "all 1 = 5:7", "all 2 = -", "all 3 = -", "version 0 = 1", "version 1 = 2", "version 2 = 0", "version 3 = 0",
		)...)
	}
}

// spread is the bytes of n keys from 0 on, and one more that is far; of pairs all values are 9.
func spread(n int, far uint64, pairs bool) []byte {
	p := []byte{0}
	if pairs {
		p[0] = 1
	}
	p = append(p, number(uint64(n)+2)...)
	for range n {
		p = append(p, 0)
		if pairs {
			p = append(p, 9)
		}
	}
	p = append(p, number(far-uint64(n))...)
	if pairs {
		p = append(p, 9)
	}
	p = append(p, 0)
	if pairs {
		p = append(p, 9)
	}
	return p
}

// number is a number's bytes.
func number(n uint64) []byte {
	if n < 128 {
		return []byte{byte(n)}
	}
	return append([]byte{byte(n%128) + 128}, number(n/128)...)
}

// TestFullOfLess: of tag 5 what is left may need more room.
func TestFullOfLess(t *testing.T) {
	for _, sort := range []string{"set", "map"} {
		p := hexOf(spread(4097, 70000, sort == "map"))
		says(t,
			"open 0 "+sort+" roar 0 4099 = ok", "decode 0 "+p+" = ok", "len 0 = 4099", "version 0 = 1", "cursor 0 4090 80000 = ok",
			"delete 0 7 = error 5", "wipe 0 7 7 = error 5", "len 0 = 4099", "version 0 = 1", "step 0 next = 4090", "has 0 7 = yes", "delete 0 5000 = error 3", "wipe 0 0 70000 = 4098", "all 0 = 70001"+either(sort == "map", ":9", ""),
		)
	}
}

// P27.1: the text

func TestNoText(t *testing.T) {
	told, e := shell.Run("")
	same(t, e, api.OK, "Run of none")
	same(t, told, "", "Run of none")
}

// TestEnds: behind the last line its end may be missing; what stands behind an end is a line, if anything does.
func TestEnds(t *testing.T) {
	for text, want := range map[string]string{
		"\n": "error 12\n", "\n\n": "error 12\nerror 12\n", "\n\n\n": "error 12\nerror 12\nerror 12\n", " ": "error 12\n", " \n": "error 12\n", "\n ": "error 12\nerror 12\n", "x": "error 12\n", "x\n": "error 12\n", "x\n\n": "error 12\nerror 12\n", "\nx": "error 12\nerror 12\n",
		"len 0": "error 6\n", "len 0\n": "error 6\n", "len 0\n\n": "error 6\nerror 12\n", "\nlen 0": "error 12\nerror 6\n", "\n\nlen 0\n": "error 12\nerror 12\nerror 6\n",
		"open 0 set veb 0 9\nlen 0": "ok\n0\n", "open 0 set veb 0 9\nlen 0\n": "ok\n0\n", "open 0 set veb 0 9\n\nlen 0": "ok\nerror 12\n0\n", "open 0 set veb 0 9\nall 0": "ok\n-\n",
		"\r\n": "error 12\n", "\n\r": "error 12\nerror 12\n", "len 0\r\nlen 0": "error 12\nerror 6\n", "len 0\rlen 0": "error 12\n", "len 0\x00len 0": "error 12\n", "len 0\x00": "error 12\n", "\x00": "error 12\n", "len 0\x0blen 0\x0c": "error 12\n", "len 0\u0085len 0\u2028": "error 12\n",
	} {
		told, e := shell.Run(text)
		same(t, e, api.OK, "Run", text)
		same(t, told, want, "Run", text)
	}
}

// TestBeginnings: cut behind an end, or ahead of it, a text answers what it answers alone.
func TestBeginnings(t *testing.T) {
	var lines []string
	for _, c := range drawn(numbers(4), 300, 2) {
		lines = append(lines, c.line())
		if len(lines)%7 == 0 {
			lines = append(lines, "what", "")
		}
	}
	text := strings.Join(lines, "\n") + "\n"
	whole, e := shell.Run(text)
	same(t, e, api.OK, "Run")
	same(t, strings.Count(whole, "\n"), len(lines), "how many answers")
	n, ends := 0, 0
	for i := range len(text) {
		if text[i] != '\n' {
			continue
		}
		told, e := shell.Run(text[:i+1])
		n++
		ends += strings.Index(whole[ends:], "\n") + 1
		same(t, e, api.OK, "Run", i)
		same(t, told, whole[:ends], "Run", i)
		if lines[n-1] != "" {
			told, _ = shell.Run(text[:i])
			same(t, told, whole[:ends], "Run without the last end", i)
		}
	}
	same(t, n, len(lines), "so many beginnings")
}

// TestTwoRuns have nothing in common.
func TestTwoRuns(t *testing.T) {
	text := "open 0 set trie 1 100\ninsert 0 5\ncursor 0 0 9\nversion 0\nopen 1 map roar 1 100\nput 1 1 1\nall 1\nall 0\n"
	want := "ok\nok\nok\n1\nok\nok\n1:1\n5\n"
	for range 3 {
		told, e := shell.Run(text)
		same(t, e, api.OK, "Run")
		same(t, told, want, "Run")
		says(t, "len 0 = error 6", "all 1 = error 6", "step 0 next = error 6", "open 1 set veb 0 5 = ok", "all 1 = -", "version 1 = 0", "step 1 next = error 3", "insert 0 9 = error 6")
	}
}

// TestTogetherRun: Runs at the same time have nothing in common, either.
func TestTogetherRun(t *testing.T) {
	var all []string
	for seed := range uint64(8) {
		var lines []string
		for _, c := range drawn(numbers(seed), 200, int(seed)) {
			lines = append(lines, c.line())
		}
		all = append(all, strings.Join(lines, "\n"))
	}
	var want []string
	for _, text := range all {
		told, _ := shell.Run(text)
		want = append(want, told)
	}
	got := make([]chan string, len(all))
	for i, text := range all {
		got[i] = make(chan string)
		go func() {
			told, _ := shell.Run(text)
			got[i] <- told
		}()
	}
	for i := range all {
		same(t, <-got[i], want[i], "Run", i)
	}
}

// TestMaxScript: so many bytes are enough, one more is too many; whatever they are.
func TestMaxScript(t *testing.T) {
	begin := "open 0 set trie 1 100\ninsert 0 5\n"
	for _, fill := range []string{"x", "\n", " ", "\x00", "\xff", "len 0\n", "x\n", "é", "世"} {
		text := begin + strings.Repeat(fill, api.MaxScript)
		for _, n := range []int{api.MaxScript - 1, api.MaxScript} {
			told, e := shell.Run(text[:n])
			same(t, e, api.OK, "Run", fill, n)
			same(t, strings.HasPrefix(told, "ok\nok\n"), true, "Run", fill, n)
			lines := strings.Count(text[:n-1], "\n") + 1
			same(t, strings.Count(told, "\n"), lines, "how many answers", fill, n)
		}
		for _, n := range []int{api.MaxScript + 1, api.MaxScript + 2, len(text)} {
			told, e := shell.Run(text[:n])
			same(t, e, api.ErrArg, "Run", fill, n)
			same(t, told, "", "Run: beside the error", fill, n)
		}
	}
	same(t, api.MaxScript, 20000, "MaxScript")
	told, e := shell.Run(strings.Repeat("\n", api.MaxScript))
	same(t, e, api.OK, "Run of empty lines")
	same(t, told, strings.Repeat("error 12\n", api.MaxScript), "Run of empty lines")
}

// TestLongLines: one line of as many bytes as there may be.
func TestLongLines(t *testing.T) {
	open := "open 0 set roar 0 1048576\n"
	n := (api.MaxScript - len(open) - len("decode 0 ") - 1 - len("all 0")) / 2
	p := append(append([]byte{0}, number(uint64(n-3))...), make([]byte, n-3)...)
	told, e := shell.Run(open + "decode 0 " + hexOf(p) + "\nall 0")
	same(t, e, api.OK, "Run")
	words := strings.Split(strings.TrimSuffix(strings.TrimPrefix(told, "ok\nok\n"), "\n"), " ")
	same(t, len(words), n-3, "how many keys")
	for i, word := range words {
		same(t, word, fmt.Sprint(i), "a key")
	}
	join := "join 3 0" + strings.Repeat(" 1", 4001) + "\n"
	told, e = shell.Run(open + "open 1 set veb 0 9\ninsert 1 7\n" + join + "all 0\n" + strings.Replace(join, " 1", "", 1) + "all 0\n")
	same(t, e, api.OK, "Run")
	same(t, told, "ok\nok\nok\nok\n7\nok\n-\n", "joins of very many")
}

func TestWords(t *testing.T) {
	l := shell.Words()
	sameList(t, l, firstWords(), "Words")
	same(t, slices.IsSorted(l), true, "do they rise")
	for i := range l {
		l[i] = "x"
	}
	l = append(l[:3], "y", "z")
	same(t, len(l), 5, "what was changed")
	sameList(t, shell.Words(), firstWords(), "Words, where an earlier answer was changed")
	a, b := shell.Words(), shell.Words()
	a = a[:cap(a)]
	for i := range a {
		a[i] = "x"
	}
	sameList(t, b, firstWords(), "Words, where another answer was changed")
	for _, word := range firstWords() {
		same(t, slices.ContainsFunc(samples(), func(line string) bool { return strings.HasPrefix(line, word+" ") }), true, "is there a line", word)
	}
}
