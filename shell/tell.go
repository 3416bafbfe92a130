package shell

import (
	"strconv"
	"strings"

	"stepstone/api"
	"stepstone/code"
	"stepstone/play"
)

func (s shape) tell(a play.Answer) string {
	if a.E != api.OK {
		return fault(a.E)
	}
	switch s.answer {
	case "number":
		return strconv.Itoa(a.N)
	case "key":
		return strconv.FormatUint(a.K, 10)
	case "yes":
		return yes(a.Yes)
	case "HEX":
		return hex(a.P)
	case "all":
		return all(a.P)
	}
	return "ok"
}

func fault(e api.Errno) string { return "error " + strconv.Itoa(int(e)) }

func yes(is bool) string {
	if is {
		return "yes"
	}
	return "no"
}

// all tells the keys, or the pairs, whose bytes these are.
func all(p []byte) string {
	l, valued, _ := code.Parse(p)
	var words []string
	for _, x := range l {
		word := strconv.FormatUint(x.Key, 10)
		if valued {
			word += ":" + strconv.FormatUint(x.Value, 10)
		}
		words = append(words, word)
	}
	return orNone(strings.Join(words, blank))
}

func orNone(word string) string {
	if word == "" {
		return none
	}
	return word
}
