package shell

import "strings"

// digits are those of Base16.
const digits = "0123456789abcdef"

func hex(p []byte) string {
	var told strings.Builder
	for _, b := range p {
		told.WriteByte(digits[b/16])
		told.WriteByte(digits[b%16])
	}
	return orNone(told.String())
}

func unhex(word string) ([]byte, bool) {
	switch {
	case word == none:
		return nil, true
	case word == "" || len(word)%2 == 1:
		return nil, false
	}
	var p []byte
	for ; word != ""; word = word[2:] {
		high, low := strings.IndexByte(digits, word[0]), strings.IndexByte(digits, word[1])
		if high < 0 || low < 0 {
			return nil, false
		}
		p = append(p, byte(16*high+low))
	}
	return p, true
}
