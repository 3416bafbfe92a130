package shell_test

import (
	"slices"
	"strings"
	"testing"

	"stepstone/shell"
)

// samples are lines of all kinds.
func samples() []string {
	return []string{
		"open 2 set veb 0 1000", "open 2 set xfast 18446744073709551615 1000", "open 3 map yfast 10 1048576", "open 3 set trie 1 0", "open 3 map roar 9223372036854775808 999999999", "close 1", "clear 0",
		"insert 0 77", "delete 0 5", "put 1 5 70", "cursor 1 5 300", "get 1 9", "next 0 6", "prev 0 6", "seek 1 6", "rank 0 9", "has 0 5", "equal 0 1", "within 1 0", "len 0", "version 1", "select 0 1", "count 0 5 9", "wipe 0 6 18446744073709551615",
		"join 0 0", "join 1 0 1", "join 3 0 1 0 1", "join 2 0 1 1 1 1 1 1 1 1 1", "step 1 next", "step 0 prev", "encode 0", "decode 0 00020503", "decode 1 010105ffffffffffffffffff01", "decode 0 -", "decode 1 ff", "all 0", "all 1",
	}
}

// begun is lines ahead of a line that is none, asked lines behind it: which would tell of any change.
func begun() []string {
	return []string{"open 0 set trie 3 100", "decode 0 00030503a202", "cursor 0 0 300", "step 0 next", "open 1 map xfast 4 1000", "put 1 5 7", "put 1 9 2", "cursor 1 5 9"}
}

func asked() []string {
	l := []string{"step 0 next", "step 1 next", "version 0", "version 1"}
	for _, h := range []string{"0", "1", "2", "3", "4", "5", "6", "7"} {
		l = append(l, "all "+h, "len "+h)
	}
	return append(l, "close 1", "open 1 set veb 1 9", "open 2 set veb 1 9", "open 7 map veb 1 9", "insert 1 0")
}

// noLine holds that none of these is a line, and that they change nothing: each alone, and many together.
func noLine(t *testing.T, l ...string) {
	t.Helper()
	want := answers(t, append(begun(), asked()...))
	n := len(begun())
	holds := func(l []string) {
		t.Helper()
		sayLines(t, slices.Concat(begun(), l, asked()), slices.Concat(want[:n], slices.Repeat([]string{"error 12"}, len(l)), want[n:]), "no line")
	}
	for _, x := range l {
		holds([]string{x})
	}
	// So many of them are within MaxScript, even the longest.
	for some := range slices.Chunk(l, 100) {
		holds(some)
	}
}

// aLine holds that each of these is a line: whatever it answers, it isn't error 12.
func aLine(t *testing.T, l ...string) {
	t.Helper()
	for _, x := range l {
		got := answers(t, append(begun(), x))
		same(t, got[len(got)-1] == "error 12", false, "error 12", x)
	}
}

// told12 tells lines by what they are: holds that all that the grammar has are lines, and no others.
func told12(t *testing.T, is func(string) bool, l ...string) {
	t.Helper()
	var none []string
	for _, x := range l {
		if is(x) {
			aLine(t, x)
		} else {
			none = append(none, x)
		}
	}
	noLine(t, none...)
}

// P27.1: what is no line

// TestSamples: all of them are lines; the grammar says so, too.
func TestSamples(t *testing.T) {
	is := checker()
	for _, x := range samples() {
		same(t, is(x), true, "is it a line", x)
	}
	aLine(t, samples()...)
}

func TestFirstWords(t *testing.T) {
	var l []string
	for _, word := range append(firstWords(), "used", "taken", "at", "new", "set", "map", "trie", "ok", "error", "what", "quit", "help", "opens", "ope", "pen", "_", "-", "0", "1", "00020503") {
		title := strings.ToUpper(word[:1]) + word[1:]
		if title != word {
			l = append(l, title+" 0", title+" 0 5", title+" 0 5 5", strings.ToUpper(word)+" 0", strings.ToUpper(word)+" 0 5")
		}
		l = append(l, word, word+" ", " "+word, "\""+word+"\" 0", word+"0", word+",0", word+"\t0", word+"\t0\t5", word+"; len 0", word+"s 0", word+"s 0 5", word[1:]+" 0", word[1:]+" 0 5", word[:len(word)-1]+" 0", word[:len(word)-1]+" 0 5")
	}
	for _, word := range []string{"used", "taken", "at", "new", "set", "map", "trie", "ok", "error", "what", "", "0", "-", "run", "words", "min", "max", "floor", "load"} {
		l = append(l, word+" 0", word+" 0 5", word+" 0 5 9", word+" 0 0 0 0", word+" 0 next", word+" 0 -")
	}
	noLine(t, l...)
}

func TestEmptyLines(t *testing.T) {
	noLine(t, "", " ", "  ", "   ", "\t", "\r", "\x00", "-", "0", "# len 0", "//", "\xff", "\u00a0")
}

// spoilt is a line's words in ways that aren't that line any more, mostly.
func spoilt(line string) []string {
	words := strings.Split(line, " ")
	l := []string{" " + line, line + " ", "  " + line, line + "  ", "\t" + line, line + "\t", line + "\r", "\r" + line, line + "\x00", line + "\x0b", line + "\u00a0", line + "\u3000", "\ufeff" + line, line + ";", line + " # x", strings.ToUpper(line), "\"" + line + "\"", line + " " + line, line + " -", line + " 0", line + " 0 0", line + " x", line + " next", strings.Join(words, ""), strings.Join(words, ","), strings.Join(words, "\t"), strings.Join(words, "  "), strings.Join(words, "\u00a0"), strings.Join(words, "\x00")}
	for i, word := range words {
		with := func(n int, by ...string) {
			l = append(l, strings.Join(slices.Replace(slices.Clone(words), i, i+n, by...), " "))
		}
		with(1)
		with(0, "")
		with(0, "0")
		with(0, word)
		with(0, "-")
		with(1, "")
		with(1, strings.ToUpper(word))
		with(1, strings.ToUpper(word[:1])+word[1:])
		with(1, word[:1]+strings.ToUpper(word[1:]))
		with(1, word+"\t")
		with(1, "\t"+word)
		with(1, word+"\r")
		with(1, word+"\x80")
		with(1, word+"é")
		with(1, "\xff"+word)
		with(1, word[:1]+"\x00"+word[1:])
		with(1, word[:1]+"\u00ad"+word[1:])
		with(1, "'"+word+"'")
		with(1, word+",")
		if i > 0 {
			l = append(l, strings.Join(words[:i], " ")+"\t"+strings.Join(words[i:], " "), strings.Join(words[:i], " ")+"  "+strings.Join(words[i:], " "), strings.Join(words[:i], " ")+" \t"+strings.Join(words[i:], " "))
			swapped := slices.Clone(words)
			swapped[i-1], swapped[i] = swapped[i], swapped[i-1]
			l = append(l, strings.Join(words[:i], " "), strings.Join(swapped, " "), strings.Join(words[i:], " "))
		}
	}
	return l
}

// TestSpoiltLines: by a word or a blank too few or too many, other blanks, large letters, other bytes.
func TestSpoiltLines(t *testing.T) {
	is := checker()
	n := 0
	for _, line := range samples() {
		l := spoilt(line)
		told12(t, is, l...)
		for _, x := range l {
			if !is(x) {
				n++
			}
		}
	}
	same(t, n > 2000, true, "so many are none", n)
}

// TestWordsTooMany: of each line, by hand.
func TestWordsTooMany(t *testing.T) {
	noLine(t,
		"open", "open 2", "open 2 set", "open 2 set trie", "open 2 set trie 1", "open 2 set trie 1 100 0", "open 2 trie 1 100", "open 2 set 1 100", "open set trie 1 100", "open 2 set map trie 1 100",
		"close", "close 0 0", "close 0 1", "clear", "clear 0 1", "len", "len 0 0", "version", "version 0 0", "encode", "encode 0 0", "encode 0 -", "all", "all 0 1",
		"insert", "insert 0", "insert 0 5 6", "delete", "delete 0", "delete 0 5 9", "get 1", "get 1 5 9", "next 0", "next 0 5 9", "prev 0", "prev 0 5 9", "seek 0", "seek 0 5 9", "rank 0", "rank 0 5 9", "has 0", "has 0 5 9",
		"put 1", "put 1 5", "put 1 5 6 7", "cursor 0", "cursor 0 5", "cursor 0 5 6 7", "count 0", "count 0 5", "count 0 5 6 7", "wipe 0", "wipe 0 5", "wipe 0 5 6 7",
		"equal", "equal 0", "equal 0 0 0", "within 0", "within 0 0 0", "select 0", "select 0 0 0", "join", "join 0", "step", "step 0", "step 0 next next", "step 0 next prev", "step 0 next 0", "step next", "decode", "decode 0", "decode 0 00 00", "decode 0 - -", "decode -",
	)
}

// TestTags: by another name, or by its number.
func TestTags(t *testing.T) {
	var l []string
	for _, tag := range []string{"", "0", "1", "2", "3", "4", "5", "6", "-", "Trie", "TRIE", "tri", "trie2", "tries", "rie", "roaring", "bitmap", "van", "vEB", "x-fast", "y-fast", "xfas", "fast", "zfast", "chain", "set", "map", "hash", "trie\t", "veb\x00", "veb,trie", "\u0442rie"} {
		for _, sort := range []string{"set", "map"} {
			l = append(l, "open 2 "+sort+" "+tag+" 1 100")
		}
	}
	for _, sort := range []string{"", "Set", "SET", "Map", "sets", "maps", "se", "ma", "setmap", "-", "0", "1", "true", "false", "list", "keys", "pairs"} {
		l = append(l, "open 2 "+sort+" trie 1 100")
	}
	for _, way := range []string{"", "Next", "NEXT", "nex", "nexts", "pre", "prev ", "previous", "back", "forth", "0", "1", "-", "true", "seek", "nextprev"} {
		l = append(l, "step 0 "+way)
	}
	noLine(t, l...)
	for _, tag := range tagNames()[1:] {
		says(t, "open 2 set "+tag+" 1 100 = ok", "open 3 map "+tag+" 1 100 = ok")
	}
}

// wrongNumbers are none of any kind.
func wrongNumbers() []string {
	return []string{"", "-1", "-0", "+1", "+0", "00", "01", "000", "007", "0000000001", "000000000", "1_0", "1_000", "0x1", "0b1", "0o7", "1e3", "1.0", "1.", ".1", "1,0", "1'000", "a", "x", "f", "-", "--", "١", "１", "²", "Ⅳ", "1\x00", "\x001", "1\t", "\t1", "1\r", "1\x80", "\xff", "five", "nil", "inf", "NaN", "1n", "1u", "(1)", "1;", "*", "?", "1/1", "1:0",
		"18446744073709551616", "18446744073709551617", "18446744073709551620", "18446744073709551700", "19446744073709551615", "28446744073709551615", "36893488147419103232", "36893488147419103237", "99999999999999999999", "100000000000000000000", "184467440737095516150", "184467440737095516161", "018446744073709551615", "000000000000000000005", "999999999999999999999999999999", "-18446744073709551615", "-9223372036854775808"}
}

// TestNumbers: of each kind in each line what is none, and what is one up to the greatest.
func TestNumbers(t *testing.T) {
	shorts := []string{"open # set trie 1 100", "open 2 set trie 1 #", "open 3 map roar 1 #", "close #", "clear #", "insert # 5", "delete # 5", "put # 5 6", "cursor # 5 6", "get # 5", "next # 5", "prev # 5", "seek # 5", "rank # 5", "has # 5", "equal # 0", "equal 0 #", "within # 0", "within 0 #", "len #", "version #", "select # 0", "select 0 #", "count # 5 6", "wipe # 5 6", "join # 0", "join # 0 1", "join 0 #", "join 0 # 1", "join 0 0 #", "join 0 0 1 #", "join 0 0 1 # 1", "step # next", "step # prev", "encode #", "decode # 0000", "decode # -", "all #"}
	longs := []string{"open 2 set trie # 100", "open 3 map veb # 100", "insert 0 #", "delete 0 #", "put 1 # 6", "put 1 5 #", "cursor 0 # 18446744073709551615", "cursor 0 0 #", "get 1 #", "next 0 #", "prev 0 #", "seek 0 #", "rank 0 #", "has 0 #", "count 0 # 18446744073709551615", "count 0 0 #", "wipe 0 # 18446744073709551615", "wipe 0 0 #"}
	tooLong := []string{"1000000000", "2147483647", "2147483648", "4294967296", "9999999999", "1234567890", "12345678901", "9223372036854775807", "18446744073709551615"}
	with := func(line string, words []string) []string {
		var l []string
		for _, word := range words {
			l = append(l, strings.Replace(line, "#", word, 1))
		}
		return l
	}
	for _, line := range shorts {
		noLine(t, with(line, wrongNumbers())...)
		noLine(t, with(line, tooLong)...)
		aLine(t, with(line, []string{"0", "1", "7", "8", "9", "10", "100000000", "123456789", "999999999"})...)
	}
	for _, line := range longs {
		noLine(t, with(line, wrongNumbers())...)
		aLine(t, with(line, []string{"0", "1", "9", "10", "999999999", "1000000000", "9999999999", "9223372036854775807", "9223372036854775808", "9999999999999999999", "10000000000000000000", "18446744073709551614", "18446744073709551615"})...)
		aLine(t, with(line, tooLong)...)
	}
}

// TestNineDigits: that is a number, whatever the shelf says of it; ten aren't.
func TestNineDigits(t *testing.T) {
	says(t,
		"open 0 set trie 1 999999999 = error 1", "open 0 set trie 1 1048577 = error 1", "open 0 set trie 1 1000000000 = error 12", "open 999999999 set trie 1 100 = error 6", "open 1000000000 set trie 1 100 = error 12",
		"open 0 set trie 1 1048576 = ok", "insert 0 18446744073709551615 = ok", "insert 0 18446744073709551616 = error 12", "insert 0 18446744073709551614 = ok", "insert 0 0 = ok", "insert 0 00 = error 12", "insert 0 -1 = error 12",
		"select 0 999999999 = error 7", "select 0 1000000000 = error 12", "select 0 2 = 18446744073709551615", "select 0 -1 = error 12", "select 999999999 0 = error 6",
		"join 999999999 0 = error 1", "join 1000000000 0 = error 12", "join 0 0 999999999 = error 6", "join 0 0 1000000000 = error 12", "equal 0 999999999 = error 6", "equal 0 1000000000 = error 12",
		"open 1 map veb 18446744073709551615 100 = ok", "open 2 map veb 18446744073709551616 100 = error 12", "put 1 18446744073709551615 18446744073709551615 = ok", "put 1 5 18446744073709551616 = error 12", "put 1 184467440737095516150 5 = error 12", "get 1 18446744073709551615 = 18446744073709551615",
		"all 0 = 0 18446744073709551614 18446744073709551615", "all 1 = 18446744073709551615:18446744073709551615", "count 0 1 18446744073709551615 = 2", "count 0 1 18446744073709551614 = 1", "wipe 0 18446744073709551615 18446744073709551616 = error 12", "wipe 0 18446744073709551615 18446744073709551615 = 1",
	)
}

// TestHex: each byte that isn't two small digits, and how many there are.
func TestHex(t *testing.T) {
	var l []string
	for _, word := range []string{"", "0", "000", "00000", "0002050", "00020503 ", "00 020503", "0X00", "0x0000", "0000h", "#0000", "000A", "000a0A", "0002050D", "FF", "fF", "Ff", "0g", "g0", "zz", "0-", "-0", "--", "---", "-00", "00-", "00020503-", "+0", "0 0", "é", "éé", "\x80\x80", "ff\x00\x00", "0\x00", "_0", "0_00", "00\t", "=", "AA==", "\\x00", "%00", "00,00", "٠٠"} {
		l = append(l, "decode 0 "+word, "decode 1 "+word)
	}
	noLine(t, l...)
	for b := range 256 {
		c := string([]byte{byte(b)})
		if strings.Contains("0123456789abcdef", c) {
			aLine(t, "decode 0 "+c+"0", "decode 0 0"+c, "decode 0 00"+c+c)
		} else if c != "\n" {
			noLine(t, "decode 0 "+c+"0", "decode 0 0"+c, "decode 0 000"+c, "decode 0 "+c+c)
		}
	}
	says(t, "open 0 map veb 1 100 = ok", "decode 0 0123456789abcdef = error 2", "decode 0 0104efcdab8967fedcba9876103254012345 = ok", "encode 0 = 0104efcdab8967fedcba9876103254012345", "all 0 = 27668440815:31726677630 27668440832:50 27668440917:1 27668440953:69")
}

// TestEachByte goes through all that bytes may be, of a number's two digits and of a first word's last two letters.
func TestEachByte(t *testing.T) {
	is := checker()
	for b := range 256 {
		c := string([]byte{byte(b)})
		if c == "\n" {
			continue
		}
		told12(t, is, "insert 0 1"+c, "insert 0 "+c+"1", "insert 0 "+c, "insert "+c+" 7", "insert"+c+"0 7", "insert 0"+c+"7", "inser"+c+" 0 7", c+"nsert 0 7", "insert 0 7"+c, c+"insert 0 7", "put 1 1"+c+" 5", "put 1 5 1"+c, "step 0 nex"+c, "open 2 se"+c+" trie 1 9", "open 2 set tri"+c+" 1 9", "open 2 set trie "+c+" 9", "open 2 set trie 1 "+c, "join 0 0 "+c, "join 0 0"+c)
	}
}

// change is a line with a byte or two changed, put in, taken out.
func change(line string, number func(n int) int) string {
	p := []byte(line)
	often := " \t\r\x00-+_.0123456789abcdefxnopstABCDEF:\x7f\x80\xff"
	for range 1 + number(2) {
		c := often[number(len(often))]
		if number(10) == 0 {
			c = byte(number(256))
		}
		at := number(len(p))
		switch number(4) {
		case 0:
			p[at] = c
		case 1:
			p = slices.Insert(p, at, c)
		case 2:
			p = slices.Delete(p, at, at+1)
		default:
			p[at] = p[number(len(p))]
		}
		if len(p) == 0 {
			break
		}
	}
	return strings.ReplaceAll(string(p), "\n", "")
}

// TestChangedLines: what the grammar has is a line, nothing else is; and without what is none a script answers the same.
func TestChangedLines(t *testing.T) {
	is := checker()
	for seed := range uint64(60) {
		number := numbers(seed)
		lines, none := begun(), 0
		for range 400 {
			line := samples()[number(len(samples()))]
			if number(5) > 0 {
				line = change(line, number)
			}
			lines = append(lines, line)
		}
		got := answers(t, lines)
		var left, want []string
		for i, line := range lines {
			same(t, got[i] != "error 12", is(line), "is it a line", line)
			if is(line) {
				left, want = append(left, line), append(want, got[i])
			} else {
				none++
			}
		}
		same(t, none > 100 && len(left) > 50, true, "some are lines, some aren't", none, len(left))
		sayLines(t, left, want, "without what is none", seed)
	}
}

// TestEndsWithin: a text without any line that there is.
func TestEndsWithin(t *testing.T) {
	told, _ := shell.Run(strings.Repeat("what\n\n \nopen\n", 300))
	same(t, told, strings.Repeat("error 12\n", 1200), "Run")
}
