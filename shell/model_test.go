package shell_test

import (
	"fmt"
	"math"
	"math/big"
	"regexp"
	"slices"
	"strings"
	"testing"

	"stepstone/api"
	"stepstone/shelf"
	"stepstone/shell"
)

const (
	greatest = math.MaxUint64
	// room is a limit with which nothing of a script is full.
	room = api.MaxCap
)

// tagNames are by the tag.
func tagNames() []string { return []string{"", "veb", "xfast", "yfast", "trie", "roar"} }

// firstWords are those of the document's table, rising.
func firstWords() []string {
	return []string{"all", "clear", "close", "count", "cursor", "decode", "delete", "encode", "equal", "get", "has", "insert", "join", "len", "next", "open", "prev", "put", "rank", "seek", "select", "step", "version", "wipe", "within"}
}

func same[T comparable](t *testing.T, got, want T, what string, about ...any) {
	if got != want {
		t.Helper()
		t.Fatalf("%s %v: %v, not %v", what, about, got, want)
	}
}

func sameList[T comparable](t *testing.T, got, want []T, what string, about ...any) {
	if !slices.Equal(got, want) {
		t.Helper()
		t.Fatalf("%s %v: %v, not %v", what, about, got, want)
	}
}

// short is of a text as much as can be told.
func short(text string) string {
	if len(text) > 300 {
		return text[:300] + " .."
	}
	return text
}

// answers is what these lines answer, one each.
func answers(t *testing.T, lines []string) []string {
	t.Helper()
	text := strings.Join(lines, "\n") + "\n"
	if len(lines) == 0 {
		text = ""
	}
	told, e := shell.Run(text)
	same(t, e, api.OK, "Run", len(text))
	l := strings.SplitAfter(told, "\n")
	same(t, l[len(l)-1], "", "what stands behind the last answer")
	l = l[:len(l)-1]
	same(t, len(l), len(lines), "how many answers")
	for i := range l {
		l[i] = strings.TrimSuffix(l[i], "\n")
	}
	return l
}

// sayLines holds that these lines answer that.
func sayLines(t *testing.T, lines, want []string, about ...any) {
	t.Helper()
	got := answers(t, lines)
	for i := range lines {
		if got[i] != want[i] {
			t.Fatalf("%v: line %d, %q: %q, not %q", about, i, short(lines[i]), short(got[i]), short(want[i]))
		}
	}
}

// says holds that these lines answer what stands behind them.
func says(t *testing.T, l ...string) {
	t.Helper()
	var lines, want []string
	for _, x := range l {
		line, answer, ok := strings.Cut(x, " = ")
		same(t, ok, true, "a line with its answer", x)
		lines, want = append(lines, line), append(want, answer)
	}
	sayLines(t, lines, want)
}

// ofTag puts a tag's name into lines.
func ofTag(name string, l ...string) []string {
	var r []string
	for _, x := range l {
		r = append(r, strings.ReplaceAll(x, "TAG", name))
	}
	return r
}

// call is what a line asks for.
type call struct {
	word  string
	h, i  int
	of    []int
	k, v  uint64
	p     []byte
	isMap bool
	tag   int
	seed  uint64
	limit int
	back  bool
}

func hexOf(p []byte) string {
	if len(p) == 0 {
		return "-"
	}
	return fmt.Sprintf("%x", p)
}

// line is how it is written.
func (c call) line() string {
	switch c.word {
	case "open":
		return fmt.Sprintf("open %d %s %s %d %d", c.h, either(c.isMap, "map", "set"), tagNames()[c.tag], c.seed, c.limit)
	case "insert", "delete", "get", "next", "prev", "seek", "rank", "has":
		return fmt.Sprintf("%s %d %d", c.word, c.h, c.k)
	case "put", "cursor", "count", "wipe":
		return fmt.Sprintf("%s %d %d %d", c.word, c.h, c.k, c.v)
	case "equal", "within", "select":
		return fmt.Sprintf("%s %d %d", c.word, c.h, c.i)
	case "join":
		line := fmt.Sprintf("join %d %d", c.i, c.h)
		for _, h := range c.of {
			line += fmt.Sprintf(" %d", h)
		}
		return line
	case "step":
		return fmt.Sprintf("step %d %s", c.h, either(c.back, "prev", "next"))
	case "decode":
		return fmt.Sprintf("decode %d %s", c.h, hexOf(c.p))
	}
	return fmt.Sprintf("%s %d", c.word, c.h)
}

func either(is bool, a, b string) string {
	if is {
		return a
	}
	return b
}

// told is an answer, or an error in its place.
func told[T any](x T, e api.Errno) string {
	if e != api.OK {
		return fmt.Sprintf("error %d", int(e))
	}
	return fmt.Sprint(x)
}

func yes(is bool, e api.Errno) string { return told(either(is, "yes", "no"), e) }

// ask is what the line answers, by layer 25's own call.
func ask(s *shelf.Shelf, c call) string {
	switch c.word {
	case "open":
		return told("ok", s.Open(c.h, shelf.Options{Map: c.isMap, Tag: c.tag, Seed: c.seed, Limit: c.limit}))
	case "close":
		return told("ok", s.Close(c.h))
	case "clear":
		return told("ok", s.Clear(c.h))
	case "insert":
		return told("ok", s.Insert(c.h, c.k))
	case "delete":
		return told("ok", s.Delete(c.h, c.k))
	case "put":
		return told("ok", s.Put(c.h, c.k, c.v))
	case "cursor":
		return told("ok", s.Cursor(c.h, c.k, c.v))
	case "join":
		return told("ok", s.Join(c.i, c.h, c.of...))
	case "decode":
		return told("ok", s.Decode(c.h, c.p))
	case "encode":
		p, e := s.Encode(c.h)
		return told(hexOf(p), e)
	case "has":
		return yes(s.Has(c.h, c.k))
	case "equal":
		return yes(s.Equal(c.h, c.i))
	case "within":
		return yes(s.Within(c.h, c.i))
	case "all":
		return everything(s, c.h)
	}
	return askNumber(s, c)
}

// askNumber is of the lines that answer one, or a key.
func askNumber(s *shelf.Shelf, c call) string {
	switch c.word {
	case "get":
		return told(s.Get(c.h, c.k))
	case "next":
		return told(s.Next(c.h, c.k))
	case "prev":
		return told(s.Prev(c.h, c.k))
	case "seek":
		return told(s.Seek(c.h, c.k))
	case "rank":
		return told(s.Rank(c.h, c.k))
	case "len":
		return told(s.Len(c.h))
	case "version":
		return told(s.Version(c.h))
	case "select":
		return told(s.Select(c.h, c.i))
	case "count":
		return told(s.Count(c.h, c.k, c.v))
	case "wipe":
		return told(s.Wipe(c.h, c.k, c.v))
	case "step":
		return told(s.Step(c.h, c.back))
	}
	return "no such word: " + c.word
}

// everything is what all answers: by one key after the other.
func everything(s *shelf.Shelf, h int) string {
	n, e := s.Len(h)
	if e != api.OK {
		return told(n, e)
	}
	var words []string
	for i := range n {
		k, _ := s.Select(h, i)
		word := fmt.Sprint(k)
		if v, e := s.Get(h, k); e == api.OK {
			word += fmt.Sprintf(":%d", v)
		}
		words = append(words, word)
	}
	if n == 0 {
		return "-"
	}
	return strings.Join(words, " ")
}

// table is the document's lines, of words that stand for kinds.
const table = `open N (set|map) (veb|xfast|yfast|trie|roar) M N
(close|clear|len|version|encode|all) N
(insert|delete|get|next|prev|seek|rank|has) N M
(put|cursor|count|wipe) N M M
(equal|within|select) N N
join N N( N)*
step N (next|prev)
decode N (-|([0-9a-f][0-9a-f])+)`

// grammar is the table as a pattern.
func grammar() *regexp.Regexp {
	kinds := strings.NewReplacer("N", "(?:0|[1-9][0-9]{0,8})", "M", "(?:0|[1-9][0-9]{0,19})", "\n", "|")
	return regexp.MustCompile(`\A(?:` + kinds.Replace(table) + `)\z`)
}

// above finds numbers of so many digits that they may be too great.
func above() *regexp.Regexp { return regexp.MustCompile(`\b[1-9][0-9]{19}\b`) }

// checker tells what is a line, by the grammar.
func checker() func(line string) bool {
	lines, numbers := grammar(), above()
	return func(line string) bool {
		if !lines.MatchString(line) {
			return false
		}
		if strings.HasPrefix(line, "decode") {
			return true
		}
		for _, word := range numbers.FindAllString(line, -1) {
			if n, ok := new(big.Int).SetString(word, 10); !ok || !n.IsUint64() {
				return false
			}
		}
		return true
	}
}

// numbers answers a function that tells numbers below n, on and on, by the seed.
func numbers(seed uint64) func(n int) int {
	return func(n int) int {
		seed = seed*6364136223846793005 + 1442695040888963407
		return int(seed >> 33 % uint64(n))
	}
}
