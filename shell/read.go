package shell

import (
	"strconv"
	"strings"

	"stepstone/face"
	"stepstone/play"
)

// shape is of a line: its first word, which is a call's name but for all, the kinds of the words behind it, and what is answered if there is no error.
type shape struct{ word, behind, answer string }

// shapes are as the document has the lines, but by the first word, rising. SORT is set or map, WAY next or prev; .. is any number of handles.
var shapes = [...]shape{
	{"all", "H", "all"},
	{"clear", "H", "ok"},
	{"close", "H", "ok"},
	{"count", "H K V", "number"},
	{"cursor", "H K V", "ok"},
	{"decode", "H HEX", "ok"},
	{"delete", "H K", "ok"},
	{"encode", "H", "HEX"},
	{"equal", "H I", "yes"},
	{"get", "H K", "key"},
	{"has", "H K", "yes"},
	{"insert", "H K", "ok"},
	{"join", "OP H ..", "ok"},
	{"len", "H", "number"},
	{"next", "H K", "key"},
	{"open", "H SORT TAG SEED LIMIT", "ok"},
	{"prev", "H K", "key"},
	{"put", "H K V", "ok"},
	{"rank", "H K", "number"},
	{"seek", "H K", "key"},
	{"select", "H I", "key"},
	{"step", "H WAY", "key"},
	{"version", "H", "key"},
	{"wipe", "H K V", "number"},
	{"within", "H I", "yes"},
}

func shapeOf(word string) (shape, bool) {
	for _, s := range shapes {
		if s.word == word {
			return s, true
		}
	}
	return shape{}, false
}

// step is what a line with these words behind the first one asks for; false: it isn't of this shape.
func (s shape) step(words []string) (play.Step, bool) {
	kinds := s.kinds(len(words))
	if len(kinds) != len(words) {
		return play.Step{}, false
	}
	step := play.Step{Do: do(s.word)}
	for i, kind := range kinds {
		if !set(&step, kind, words[i]) {
			return play.Step{}, false
		}
	}
	return step, true
}

// kinds are those of n words, as far as there may be so many.
func (s shape) kinds(n int) []string {
	behind, many := strings.CutSuffix(s.behind, " ..")
	l := strings.Split(behind, blank)
	for many && len(l) < n {
		l = append(l, "..")
	}
	return l
}

// do is the Do of the call. What all tells stands in the bytes that encode answers.
func do(word string) byte {
	if word == "all" {
		word = "encode"
	}
	d := byte(0)
	for play.Name(d) != word && play.Name(d) != "" {
		d++
	}
	return d
}

// set lets a step have what a word says; false: the word isn't of that kind.
func set(s *play.Step, kind, word string) bool {
	ok := false
	switch kind {
	case "H":
		s.H, ok = short(word)
	case "I", "OP":
		s.I, ok = short(word)
	case "LIMIT":
		s.Limit, ok = short(word)
	case "..":
		h, is := short(word)
		s.Of, ok = append(s.Of, h), is
	case "K":
		s.K, ok = number(word)
	case "V":
		s.To, ok = number(word)
	case "SEED":
		s.Seed, ok = number(word)
	case "HEX":
		s.P, ok = unhex(word)
	case "TAG":
		s.Tag, ok = tag(word)
	case "SORT":
		s.Map, ok = second(word, "set", "map")
	case "WAY":
		s.Back, ok = second(word, "next", "prev")
	}
	return ok
}

// short is a number of at most nine digits.
func short(word string) (int, bool) {
	n, ok := number(word)
	if !ok || len(word) > 9 {
		return 0, false
	}
	return int(n), true
}

// number is what is written just as it would be told: so it has no sign, and no nought in front.
func number(word string) (uint64, bool) {
	n, err := strconv.ParseUint(word, 10, 64)
	if err != nil || strconv.FormatUint(n, 10) != word {
		return 0, false
	}
	return n, true
}

func tag(word string) (int, bool) {
	for t := 1; face.Name(t) != ""; t++ {
		if face.Name(t) == word {
			return t, true
		}
	}
	return 0, false
}

// second tells whether it is the second of two words; false: it is none of them.
func second(word, a, b string) (bool, bool) {
	return word == b, word == a || word == b
}
