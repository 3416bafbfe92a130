package code_test

import (
	"bytes"
	"math"
	"math/big"
	"math/bits"
	"slices"
	"testing"

	"stepstone/api"
	"stepstone/code"
)

const greatest = math.MaxUint64

func same[T comparable](t *testing.T, got, want T, what string, about ...any) {
	if got != want {
		t.Helper()
		t.Fatalf("%s %v: %v, not %v", what, about, got, want)
	}
}

// told holds bytes against each other; long ones aren't told.
func told(t *testing.T, got, want []byte, what string, about ...any) {
	if !bytes.Equal(got, want) {
		t.Helper()
		t.Fatalf("%s %v: %v (%d), not %v (%d)", what, about, got[:min(len(got), 40)], len(got), want[:min(len(want), 40)], len(want))
	}
}

// numbers answers a function that tells numbers below n, on and on, by the seed.
func numbers(seed uint64) func(n int) int {
	return func(n int) int {
		seed = seed*6364136223846793005 + 1442695040888963407
		return int(seed >> 33 % uint64(n))
	}
}

// sizes answers a function that tells numbers with as many bits as may be.
func sizes(seed uint64) func() uint64 {
	number := numbers(seed)
	return func() uint64 {
		n := uint64(number(1<<31))<<33 ^ uint64(number(1<<31))<<2 ^ uint64(number(4))
		return n >> number(65)
	}
}

// spread is n keys that are by apart, from from on.
func spread(from uint64, n int, by uint64) []uint64 {
	var l []uint64
	for i := range uint64(n) {
		l = append(l, from+i*by)
	}
	return l
}

// edges are the numbers that the document's words make special, and those beside them; rising.
func edges() []uint64 {
	l := []uint64{0, 1, 2, 5, 300}
	for i := 7; i < 64; i += 7 {
		l = append(l, 1<<i-2, 1<<i-1, 1<<i, 1<<i+1)
	}
	l = append(l, 1<<63-2, 1<<63-1, 1<<63, 1<<63+1, greatest-2, greatest-1, greatest)
	slices.Sort(l)
	return slices.Compact(l)
}

// plain is a number's bytes, by sums alone.
func plain(n uint64) []byte {
	if n < 128 {
		return []byte{byte(n)}
	}
	return append([]byte{byte(n%128) + 128}, plain(n/128)...)
}

// read is the plain way to read a number: of any length first, and then held against what it should be.
func read(p []byte) (uint64, []byte, bool) {
	n, i := new(big.Int), 0
	for i < len(p) {
		n.Add(n, new(big.Int).Lsh(big.NewInt(int64(p[i]%128)), uint(7*i)))
		i++
		if p[i-1] < 128 {
			break
		}
	}
	if i == 0 || p[i-1] >= 128 || !n.IsUint64() || len(plain(n.Uint64())) != i {
		return 0, nil, false
	}
	return n.Uint64(), p[i:], true
}

// pairs are of these keys and values, one behind the other.
func pairs(l ...uint64) []api.Pair {
	var r []api.Pair
	for i := 0; i < len(l); i += 2 {
		r = append(r, api.Pair{Key: l[i], Value: l[i+1]})
	}
	return r
}

// keyed are these keys, with values 0.
func keyed(keys []uint64) []api.Pair {
	var r []api.Pair
	for _, k := range keys {
		r = append(r, api.Pair{Key: k})
	}
	return r
}

// bytesOf are the bytes as the document's words have them.
func bytesOf(l []api.Pair, valued bool) []byte {
	p := []byte{0}
	if valued {
		p[0] = 1
	}
	p = append(p, plain(uint64(len(l)))...)
	for i, x := range l {
		if i == 0 {
			p = append(p, plain(x.Key)...)
		} else {
			p = append(p, plain(x.Key-l[i-1].Key-1)...)
		}
		if valued {
			p = append(p, plain(x.Value)...)
		}
	}
	return p
}

// parse is the plain way to parse.
func parse(p []byte) ([]api.Pair, bool, bool) {
	if len(p) == 0 || p[0] > 1 {
		return nil, false, false
	}
	valued := p[0] == 1
	n, p, ok := read(p[1:])
	if !ok || n > api.MaxKeys {
		return nil, false, false
	}
	var l []api.Pair
	ahead := big.NewInt(-1)
	for range n {
		gap, rest, ok := read(p)
		ahead.Add(ahead, new(big.Int).Add(new(big.Int).SetUint64(gap), big.NewInt(1)))
		if !ok || !ahead.IsUint64() {
			return nil, false, false
		}
		x := api.Pair{Key: ahead.Uint64()}
		if p = rest; valued {
			if x.Value, p, ok = read(p); !ok {
				return nil, false, false
			}
		}
		l = append(l, x)
	}
	return l, valued, len(p) == 0
}

// samples are lists of rising keys.
func samples() [][]uint64 {
	return [][]uint64{
		nil, {0}, {1}, {5}, {127}, {128}, {1<<63 - 1}, {1 << 63}, {greatest - 1}, {greatest}, {0, 1}, {0, greatest}, {greatest - 1, greatest}, {0, greatest - 1, greatest}, {1, greatest}, {5, 6, 300},
		{0, 127, 128, 255, 256, 257, 384, 385, 386}, {0, 128}, {0, 129}, {7, 7 + 128, 7 + 128 + 129}, edges(), spread(0, 127, 1), spread(0, 128, 1), spread(9, 129, 130), spread(greatest-999, 1000, 1), spread(5, 300, 1<<55),
	}
}

// valued lets keys have values of all sizes.
func valued(keys []uint64, seed uint64) []api.Pair {
	l, size := keyed(keys), sizes(seed)
	for i := range l {
		l[i].Value = size()
	}
	return l
}

// many are keys at random, rising.
func many(n int, seed uint64) []uint64 {
	size := sizes(seed)
	var l []uint64
	for range n {
		l = append(l, size())
	}
	slices.Sort(l)
	return slices.Compact(l)
}

// parses holds that these are the bytes of just that.
func parses(t *testing.T, p []byte, want []api.Pair, valued bool, about ...any) {
	t.Helper()
	was := bytes.Clone(p)
	l, two, e := code.Parse(p)
	same(t, e, api.OK, "Parse", about...)
	same(t, two, valued, "Parse: are they pairs", about...)
	if !slices.Equal(l, want) {
		t.Fatalf("Parse %v: %v (%d), not %v (%d)", about, l[:min(len(l), 20)], len(l), want[:min(len(want), 20)], len(want))
	}
	told(t, p, was, "what was handed to Parse", about...)
}

// refused holds that these are the bytes of none.
func refused(t *testing.T, p []byte, about ...any) {
	t.Helper()
	was := bytes.Clone(p)
	l, two, e := code.Parse(p)
	same(t, e, api.ErrForm, "Parse", about...)
	same(t, two, false, "Parse: are they pairs, beside an error", about...)
	same(t, len(l), 0, "Parse: how many, beside an error", about...)
	told(t, p, was, "what was handed to Parse", about...)
}

// unread holds that no number stands in front.
func unread(t *testing.T, p []byte, about ...any) {
	t.Helper()
	n, rest, e := code.Read(p)
	same(t, e, api.ErrForm, "Read", about...)
	same(t, n, 0, "Read: the number beside an error", about...)
	same(t, len(rest), 0, "Read: what stands behind, beside an error", about...)
}

// P19.1

func TestNumber(t *testing.T) {
	for n, want := range map[uint64]string{
		0: "\x00", 1: "\x01", 5: "\x05", 126: "\x7e", 127: "\x7f", 128: "\x80\x01", 129: "\x81\x01", 293: "\xa5\x02", 300: "\xac\x02",
		16382: "\xfe\x7f", 16383: "\xff\x7f", 16384: "\x80\x80\x01", 16385: "\x81\x80\x01", 1<<21 - 1: "\xff\xff\x7f", 1 << 21: "\x80\x80\x80\x01",
		1<<63 - 1: "\xff\xff\xff\xff\xff\xff\xff\xff\x7f", 1 << 63: "\x80\x80\x80\x80\x80\x80\x80\x80\x80\x01", 1<<63 + 1: "\x81\x80\x80\x80\x80\x80\x80\x80\x80\x01",
		greatest - 1: "\xfe\xff\xff\xff\xff\xff\xff\xff\xff\x01", greatest: "\xff\xff\xff\xff\xff\xff\xff\xff\xff\x01",
	} {
		told(t, code.Number(n), []byte(want), "Number", n)
		told(t, plain(n), []byte(want), "by sums", n)
		got, rest, e := code.Read([]byte(want))
		same(t, got, n, "Read")
		same(t, len(rest), 0, "Read: what stands behind", n)
		same(t, e, api.OK, "Read", n)
		same(t, code.Size(n), len(want), "Size", n)
	}
}

// numbered are the edges, and numbers of all sizes.
func numbered() []uint64 {
	l, size := edges(), sizes(1)
	for range 3000 {
		l = append(l, size())
	}
	return append(l, spread(0, 3000, 1)...)
}

func TestNumberAndRead(t *testing.T) {
	for _, n := range numbered() {
		p := code.Number(n)
		told(t, p, plain(n), "Number", n)
		same(t, code.Size(n), len(p), "Size", n)
		for _, behind := range [][]byte{nil, {}, {0}, {1}, {127}, {128}, {255}, {0, 0}, {128, 0}, {255, 255, 255}, bytes.Repeat([]byte{255}, 20), bytes.Repeat([]byte{0}, 20), code.Number(n)} {
			got, rest, e := code.Read(slices.Concat(p, behind))
			same(t, got, n, "Read")
			told(t, rest, behind, "Read: what stands behind", n)
			same(t, e, api.OK, "Read", n)
		}
	}
}

// TestReadOneByOne: what stands behind a number is read on.
func TestReadOneByOne(t *testing.T) {
	var p []byte
	for _, n := range numbered() {
		p = append(p, code.Number(n)...)
		if len(p) > 3000 {
			break
		}
	}
	for _, n := range numbered() {
		got, rest, e := code.Read(p)
		same(t, e, api.OK, "Read", n)
		same(t, got, n, "Read")
		if p = rest; len(p) == 0 {
			return
		}
	}
	t.Fatal("something stands behind the last one")
}

// TestNotAllThere: a number without its last byte, or without more of them.
func TestNotAllThere(t *testing.T) {
	unread(t, nil, "nil")
	unread(t, []byte{}, "none")
	for _, n := range numbered() {
		p := code.Number(n)
		for i := range p {
			unread(t, p[:i], n, i)
			unread(t, slices.Clone(p[:i:i]), n, i)
		}
	}
	for n := range 20 {
		unread(t, bytes.Repeat([]byte{128}, n), "128", n)
		unread(t, bytes.Repeat([]byte{255}, n), "255", n)
	}
}

// TestMoreBytesThanItNeeds: the last byte of a number of more than one byte isn't 0.
func TestMoreBytesThanItNeeds(t *testing.T) {
	for _, n := range numbered() {
		p := code.Number(n)
		for noughts := 1; noughts < 12; noughts++ {
			p[len(p)-1] |= 128
			p = append(p, 0)
			unread(t, p, n, noughts)
			unread(t, slices.Concat(p, []byte{0}), n, noughts)
			unread(t, slices.Concat(p, []byte{1}), n, noughts)
		}
	}
	for _, p := range []string{"\x80\x00", "\xff\x00", "\x80\x80\x00", "\x81\x80\x00", "\x80\x80\x80\x80\x80\x80\x80\x80\x80\x00", "\xff\xff\xff\xff\xff\xff\xff\xff\xff\x00"} {
		unread(t, []byte(p), p)
	}
}

// TestAboveTheGreatest: a tenth byte is 1, and there is no eleventh.
func TestAboveTheGreatest(t *testing.T) {
	for _, low := range []byte{128, 129, 200, 254, 255} {
		nine := bytes.Repeat([]byte{low}, 9)
		for last := range 256 {
			p := append(bytes.Clone(nine), byte(last))
			if last != 1 {
				unread(t, p, low, last)
				unread(t, slices.Concat(p, []byte{1}), low, last)
				unread(t, slices.Concat(p, []byte{0}), low, last)
				continue
			}
			n, rest, e := code.Read(append(p, 7))
			same(t, e, api.OK, "Read", low)
			same(t, n>>63, 1, "Read: the topmost bit", low)
			told(t, rest, []byte{7}, "Read: what stands behind", low)
		}
		for last := range 256 {
			unread(t, slices.Concat(nine, []byte{128, byte(last)}), low, last)
			unread(t, slices.Concat(nine, []byte{129, byte(last)}), low, last)
		}
	}
	for n := 10; n < 200; n++ {
		unread(t, append(bytes.Repeat([]byte{128}, n), 1), "128 and 1", n)
		unread(t, append(bytes.Repeat([]byte{255}, n), 1), "255 and 1", n)
	}
}

// TestReadOfAll goes through all bytes up to three of some kinds.
func TestReadOfAll(t *testing.T) {
	some := []byte{0, 1, 2, 127, 128, 129, 254, 255}
	l := [][]byte{nil}
	for range 5 {
		for _, p := range l {
			want, behind, ok := read(p)
			if !ok {
				unread(t, p, p)
				continue
			}
			n, rest, e := code.Read(p)
			same(t, e, api.OK, "Read", p)
			same(t, n, want, "Read", p)
			told(t, rest, behind, "Read", p)
		}
		var next [][]byte
		for _, p := range l {
			for _, b := range some {
				next = append(next, slices.Concat(p, []byte{b}))
			}
		}
		l = next
	}
}

func TestSize(t *testing.T) {
	same(t, code.Size(), 0, "Size of none")
	same(t, code.Size([]uint64{}...), 0, "Size of none")
	same(t, code.Size(0), 1, "Size of 0")
	same(t, code.Size(0, 0, 0), 3, "Size of three noughts")
	same(t, code.Size(0, 127, 128, greatest), 14, "Size")
	same(t, code.Size(greatest, greatest), 20, "Size")
	for i := range 64 {
		same(t, code.Size(1<<i), i/7+1, "Size", i)
		same(t, code.Size(2<<i-1), i/7+1, "Size", i)
	}
	want, l := 0, []uint64(nil)
	for _, n := range numbered() {
		want += len(plain(n))
		l = append(l, n)
		same(t, code.Size(l...), want, "Size", len(l))
	}
}

// P19.2

func TestExample(t *testing.T) {
	p, e := code.Keys([]uint64{5, 6, 300})
	same(t, e, api.OK, "Keys")
	told(t, p, []byte{0, 3, 5, 0, 165, 2}, "Keys")
	parses(t, p, keyed([]uint64{5, 6, 300}), false)
}

// TestByHand holds the plain way that all is held against, too.
func TestByHand(t *testing.T) {
	for _, c := range []struct {
		keys []uint64
		want string
	}{
		{nil, "\x00\x00"},
		{[]uint64{0}, "\x00\x01\x00"},
		{[]uint64{greatest}, "\x00\x01\xff\xff\xff\xff\xff\xff\xff\xff\xff\x01"},
		{[]uint64{0, 1, 2}, "\x00\x03\x00\x00\x00"},
		{[]uint64{0, 128, 257}, "\x00\x03\x00\x7f\x80\x01"},
		{[]uint64{1, greatest}, "\x00\x02\x01\xfd\xff\xff\xff\xff\xff\xff\xff\xff\x01"},
		{[]uint64{0, greatest}, "\x00\x02\x00\xfe\xff\xff\xff\xff\xff\xff\xff\xff\x01"},
		{[]uint64{greatest - 1, greatest}, "\x00\x02\xfe\xff\xff\xff\xff\xff\xff\xff\xff\x01\x00"},
		{spread(0, 128, 1), "\x00\x80\x01" + string(make([]byte, 128))},
	} {
		p, e := code.Keys(c.keys)
		same(t, e, api.OK, "Keys", c.keys)
		told(t, p, []byte(c.want), "Keys", c.keys)
		told(t, bytesOf(keyed(c.keys), false), []byte(c.want), "the plain way", c.keys)
		parses(t, p, keyed(c.keys), false, c.keys)
	}
	for _, c := range []struct {
		pairs []api.Pair
		want  string
	}{
		{nil, "\x01\x00"},
		{pairs(0, 0), "\x01\x01\x00\x00"},
		{pairs(5, 7, 9, 1), "\x01\x02\x05\x07\x03\x01"},
		{pairs(5, 300, 9, 0), "\x01\x02\x05\xac\x02\x03\x00"},
		{pairs(0, greatest, greatest, 0), "\x01\x02\x00\xff\xff\xff\xff\xff\xff\xff\xff\xff\x01\xfe\xff\xff\xff\xff\xff\xff\xff\xff\x01\x00"},
		{pairs(7, 128, 8, 127), "\x01\x02\x07\x80\x01\x00\x7f"},
	} {
		p, e := code.Pairs(c.pairs)
		same(t, e, api.OK, "Pairs", c.pairs)
		told(t, p, []byte(c.want), "Pairs", c.pairs)
		told(t, bytesOf(c.pairs, true), []byte(c.want), "the plain way", c.pairs)
		parses(t, p, c.pairs, true, c.pairs)
	}
}

func TestKeysAndPairs(t *testing.T) {
	l := samples()
	for seed := range uint64(200) {
		l = append(l, many(int(seed), seed))
	}
	for i, keys := range l {
		p, e := code.Keys(keys)
		same(t, e, api.OK, "Keys", i)
		told(t, p, bytesOf(keyed(keys), false), "Keys", i)
		parses(t, p, keyed(keys), false, i)
		for seed := range uint64(3) {
			x := valued(keys, seed)
			p, e = code.Pairs(x)
			same(t, e, api.OK, "Pairs", i)
			told(t, p, bytesOf(x, true), "Pairs", i)
			parses(t, p, x, true, i)
		}
		p, e = code.Pairs(keyed(keys))
		same(t, e, api.OK, "Pairs of values 0", i)
		parses(t, p, keyed(keys), true, i)
	}
}

func TestOfNone(t *testing.T) {
	for _, l := range [][]uint64{nil, {}} {
		p, e := code.Keys(l)
		same(t, e, api.OK, "Keys of none")
		told(t, p, []byte{0, 0}, "Keys of none")
	}
	for _, l := range [][]api.Pair{nil, {}} {
		p, e := code.Pairs(l)
		same(t, e, api.OK, "Pairs of none")
		told(t, p, []byte{1, 0}, "Pairs of none")
	}
	parses(t, []byte{0, 0}, nil, false)
	parses(t, []byte{1, 0}, nil, true)
}

// falls holds that lists with these keys are refused: whatever the values.
func falls(t *testing.T, l []uint64, want api.Errno, about ...any) {
	t.Helper()
	p, e := code.Keys(l)
	same(t, e, want, "Keys", about...)
	same(t, len(p), 0, "Keys: the bytes beside an error", about...)
	for seed := range uint64(2) {
		p, e = code.Pairs(valued(l, seed))
		same(t, e, want, "Pairs", about...)
		same(t, len(p), 0, "Pairs: the bytes beside an error", about...)
	}
}

// TestThatDontRise: a key twice, or a lesser one behind, at whatever place.
func TestThatDontRise(t *testing.T) {
	for i, l := range samples() {
		for at, k := range l {
			falls(t, slices.Insert(slices.Clone(l), at, k), api.ErrOrder, i, at)
			falls(t, append(slices.Clone(l), k), api.ErrOrder, i, at)
			if at > 0 {
				falls(t, slices.Concat(l[:at-1], []uint64{k, l[at-1]}, l[at+1:]), api.ErrOrder, i, at)
				falls(t, slices.Insert(slices.Clone(l), 0, k), api.ErrOrder, i, at)
			}
			if len(l) > 100 {
				break
			}
		}
	}
	falls(t, []uint64{greatest, 0}, api.ErrOrder)
	falls(t, []uint64{0, 0}, api.ErrOrder)
	falls(t, []uint64{greatest, greatest}, api.ErrOrder)
	falls(t, []uint64{1 << 63, 1<<63 - 1}, api.ErrOrder)
	falls(t, []uint64{5, 9, 7}, api.ErrOrder)
}

// TestThatRiseByTheKeyAlone: of pairs the values needn't rise.
func TestThatRiseByTheKeyAlone(t *testing.T) {
	for _, l := range [][]api.Pair{pairs(1, 9, 2, 5, 3, 5), pairs(0, greatest, 1, 0)} {
		p, e := code.Pairs(l)
		same(t, e, api.OK, "Pairs", l)
		parses(t, p, l, true)
	}
	_, e := code.Pairs(pairs(5, 1, 5, 2))
	same(t, e, api.ErrOrder, "Pairs with a key twice")
}

func TestMaxKeys(t *testing.T) {
	for _, by := range []uint64{1, 129, 1 << 45} {
		l := spread(0, api.MaxKeys, by)
		p, e := code.Keys(l)
		same(t, e, api.OK, "Keys of MaxKeys")
		told(t, p, bytesOf(keyed(l), false), "Keys of MaxKeys")
		parses(t, p, keyed(l), false, "MaxKeys")
		x := valued(l, by)
		p, e = code.Pairs(x)
		same(t, e, api.OK, "Pairs of MaxKeys")
		told(t, p, bytesOf(x, true), "Pairs of MaxKeys")
		parses(t, p, x, true, "MaxKeys")
		l = spread(0, api.MaxKeys+1, by)
		falls(t, l, api.ErrArg, "one more")
		refused(t, bytesOf(keyed(l), false), "keys, one more")
		refused(t, bytesOf(keyed(l), true), "pairs, one more")
	}
}

// TestOrderAheadOfMany: of more than MaxKeys that don't rise, it is told that they don't.
func TestOrderAheadOfMany(t *testing.T) {
	for _, n := range []int{api.MaxKeys + 1, api.MaxKeys + 2, 2 * api.MaxKeys} {
		l := spread(7, n, 3)
		falls(t, l, api.ErrArg, n)
		for _, at := range []int{1, n / 2, api.MaxKeys - 1, api.MaxKeys, n - 1} {
			x := slices.Clone(l)
			x[at] = x[at-1]
			falls(t, x, api.ErrOrder, n, at)
			x[at] = 0
			falls(t, x, api.ErrOrder, n, at)
		}
	}
	falls(t, append(spread(0, api.MaxKeys, 1), api.MaxKeys-1), api.ErrOrder, "the last one twice")
}

// TestBeginnings: what ends early, or has a byte more behind, is refused.
func TestBeginnings(t *testing.T) {
	for i, l := range samples() {
		if len(l) > 300 {
			continue
		}
		for _, p := range [][]byte{bytesOf(keyed(l), false), bytesOf(valued(l, 3), true)} {
			for n := range p {
				refused(t, p[:n], i, n)
				refused(t, slices.Clone(p[:n:n]), i, n)
			}
			for b := range 256 {
				refused(t, slices.Concat(p, []byte{byte(b)}), i, b)
			}
			refused(t, slices.Concat(p, p), i, "twice")
			refused(t, slices.Concat(p, make([]byte, 50)), i, "with noughts behind")
		}
	}
	refused(t, nil, "nil")
	refused(t, []byte{}, "none")
}

// TestOtherFirstBytes than 0 and 1, also such as would be these in more bytes.
func TestOtherFirstBytes(t *testing.T) {
	for _, l := range samples()[:12] {
		for _, p := range [][]byte{bytesOf(keyed(l), false), bytesOf(valued(l, 3), true)} {
			rest := p[1:]
			for b := 2; b < 256; b++ {
				refused(t, slices.Concat([]byte{byte(b)}, rest), b)
				refused(t, slices.Concat([]byte{byte(b), 0}, rest), b)
				refused(t, slices.Concat([]byte{byte(b), 1}, rest), b)
			}
		}
	}
	for b := range 256 {
		if b > 1 {
			refused(t, []byte{byte(b)}, b)
			refused(t, []byte{byte(b), 0}, b)
		}
	}
}

// TestCounts that are more than what stands there, also far more, or less.
func TestCounts(t *testing.T) {
	for i, l := range samples() {
		for _, pairs := range []bool{false, true} {
			p := bytesOf(valued(l, 9), pairs)
			rest := p[1+len(plain(uint64(len(l)))):]
			for _, n := range append(edges(), spread(0, 140, 1)...) {
				q := slices.Concat(p[:1], plain(n), rest)
				if n != uint64(len(l)) {
					refused(t, q, i, n)
				} else {
					told(t, q, p, "the bytes", i)
				}
			}
			for n := api.MaxKeys - 1; n < api.MaxKeys+3; n++ {
				refused(t, slices.Concat(p[:1], plain(uint64(n)), rest), i, n)
			}
			// The count itself in more bytes than it needs.
			long := plain(uint64(len(l)))
			long[len(long)-1] |= 128
			refused(t, slices.Concat(p[:1], long, []byte{0}, rest), i, "a long count")
		}
	}
}

// TestCountsOfPairs: as many numbers as there should be, but of keys where pairs are told, and the other way round.
func TestCountsOfPairs(t *testing.T) {
	refused(t, []byte{1, 3, 0, 0, 0}, "three keys as pairs")
	refused(t, []byte{0, 1, 5, 7}, "a pair as a key")
	refused(t, []byte{1, 1, 5}, "a pair without its value")
	refused(t, []byte{1, 2, 5, 7, 3}, "the last pair without its value")
	parses(t, []byte{0, 2, 5, 7}, keyed([]uint64{5, 13}), false)
	parses(t, []byte{1, 1, 5, 7}, pairs(5, 7), true)
}

// TestBeyondTheGreatestKey: the key 2^64 - 1 there may be, and none behind it.
func TestBeyondTheGreatestKey(t *testing.T) {
	for _, ahead := range edges() {
		for _, gap := range edges() {
			for _, two := range []byte{0, 1} {
				value := plain(3)[:two]
				p := slices.Concat([]byte{two, 2}, plain(ahead), value, plain(gap), value)
				k, carry := bits.Add64(ahead, gap, 1)
				if carry > 0 {
					refused(t, p, ahead, gap)
					refused(t, slices.Concat([]byte{two, 3}, p[2:], []byte{9}, value), ahead, gap)
					continue
				}
				want := pairs(ahead, 3*uint64(two), k, 3*uint64(two))
				parses(t, p, want, two == 1, ahead, gap)
			}
		}
	}
	for _, gap := range edges() {
		refused(t, slices.Concat([]byte{0, 2}, plain(greatest), plain(gap)), gap)
		refused(t, slices.Concat([]byte{0, 3, 7}, plain(greatest-8), plain(gap)), gap)
		refused(t, slices.Concat([]byte{1, 3, 7, 0}, plain(greatest-8), []byte{0}, plain(gap), []byte{0}), gap)
	}
}

func TestValues(t *testing.T) {
	for _, v := range edges() {
		for _, w := range edges() {
			l := pairs(5, v, 6, w, greatest, v)
			p, e := code.Pairs(l)
			same(t, e, api.OK, "Pairs", v, w)
			told(t, p, bytesOf(l, true), "Pairs", v, w)
			parses(t, p, l, true, v, w)
		}
		long := plain(v)
		long[len(long)-1] |= 128
		refused(t, slices.Concat([]byte{1, 1, 5}, long, []byte{0}), v, "a value in more bytes than it needs")
		refused(t, slices.Concat([]byte{1, 1}, long, []byte{0, 5}), v, "a key in more bytes than it needs")
		refused(t, slices.Concat([]byte{0, 1}, long, []byte{0}), v, "a key in more bytes than it needs")
	}
	above := append(bytes.Repeat([]byte{255}, 9), 2)
	refused(t, slices.Concat([]byte{1, 1, 5}, above), "a value above the greatest")
	refused(t, slices.Concat([]byte{1, 1}, above, []byte{5}), "a key above the greatest")
	refused(t, slices.Concat([]byte{0, 1}, above), "a key above the greatest")
}

// parsed holds what Parse says of any bytes against the plain way: they are refused, or just the bytes of what they are read as.
func parsed(t *testing.T, p []byte) bool {
	t.Helper()
	want, valued, ok := parse(p)
	if !ok {
		refused(t, p, p[:min(len(p), 40)])
		return false
	}
	parses(t, p, want, valued, p[:min(len(p), 40)])
	again, e := code.Pairs(want)
	if !valued {
		var keys []uint64
		for _, x := range want {
			keys = append(keys, x.Key)
		}
		again, e = code.Keys(keys)
	}
	same(t, e, api.OK, "Keys, Pairs of what was read")
	told(t, again, p, "the bytes of what was read")
	return true
}

// TestAllShortBytes of some kinds.
func TestAllShortBytes(t *testing.T) {
	some := []byte{0, 1, 2, 3, 127, 128, 129, 255}
	fit, l := 0, [][]byte{nil}
	for range 7 {
		for _, p := range l {
			if parsed(t, p) {
				fit++
			}
		}
		if len(l) > 1<<17 {
			break
		}
		var next [][]byte
		for _, p := range l {
			for _, b := range some {
				next = append(next, slices.Concat(p, []byte{b}))
			}
		}
		l = next
	}
	same(t, fit > 1000, true, "many are the bytes of some", fit)
}

func TestBytesAtRandom(t *testing.T) {
	for seed := range uint64(4) {
		number := numbers(seed)
		for range 20000 {
			p := make([]byte, number(30))
			for i := range p {
				p[i] = byte(number(256))
				if number(3) == 0 {
					p[i] = byte(number(4))
				}
			}
			parsed(t, p)
		}
	}
}

// TestChangedBytes: of what is fit one byte is another one, is gone, or is there twice.
func TestChangedBytes(t *testing.T) {
	for i, l := range samples() {
		if len(l) > 60 {
			continue
		}
		for _, p := range [][]byte{bytesOf(keyed(l), false), bytesOf(valued(l, 5), true)} {
			for at := range p {
				for _, b := range []byte{0, 1, 2, 3, 127, 128, 129, 254, 255, p[at] + 1, p[at] - 1, p[at] ^ 128} {
					q := bytes.Clone(p)
					q[at] = b
					parsed(t, q)
				}
				parsed(t, slices.Delete(bytes.Clone(p), at, at+1))
				parsed(t, slices.Insert(bytes.Clone(p), at, p[at]))
				parsed(t, slices.Insert(bytes.Clone(p), at, 0))
				parsed(t, slices.Insert(bytes.Clone(p), at, 128))
			}
			same(t, parsed(t, p), true, "the bytes as they are", i)
		}
	}
}

// Rules that hold everywhere

// TestHandedIn: what is handed in is neither changed nor kept, and its spare room isn't either.
func TestHandedIn(t *testing.T) {
	for _, end := range []int{0, 1, 3, 5} {
		keys := []uint64{5, 6, 300, 1 << 40, greatest, 77, 78}
		was := slices.Clone(keys)
		p, _ := code.Keys(keys[:end])
		code.Size(keys[:end]...)
		same(t, slices.Equal(keys, was), true, "what was handed to Keys and Size", end)
		clear(keys)
		told(t, p, bytesOf(keyed(was[:end]), false), "Keys", end)
		l := pairs(5, 1, 6, 300, 300, 0, 1<<40, greatest, greatest, 7, 77, 78)
		wasPairs := slices.Clone(l)
		p, _ = code.Pairs(l[:end])
		same(t, slices.Equal(l, wasPairs), true, "what was handed to Pairs", end)
		clear(l)
		told(t, p, bytesOf(wasPairs[:end], true), "Pairs", end)
		room := append(slices.Clone(p), 1, 2, 3, 4, 5, 6, 7, 8, 9)
		roomWas := slices.Clone(room)
		got, _, e := code.Parse(room[:len(p)])
		same(t, e, api.OK, "Parse", end)
		told(t, room, roomWas, "what was handed to Parse", end)
		clear(room)
		same(t, slices.Equal(got, wasPairs[:end]), true, "Parse", end)
	}
	room := []byte{0xac, 2, 7, 8, 9, 10}
	n, rest, e := code.Read(room[:4])
	same(t, e, api.OK, "Read")
	told(t, room, []byte{0xac, 2, 7, 8, 9, 10}, "what was handed to Read")
	clear(room)
	same(t, n, 300, "Read")
	told(t, rest, []byte{7, 8}, "what stands behind, written over what was handed in")
}

// TestAnswersAreNewMemory, their spare room too.
func TestAnswersAreNewMemory(t *testing.T) {
	over := func(p []byte) {
		for i := range p[:cap(p)] {
			p[:cap(p)][i] = 99
		}
	}
	for _, n := range []uint64{0, 5, 300, greatest} {
		a, b := code.Number(n), code.Number(n)
		over(a)
		told(t, b, plain(n), "another answer of Number", n)
		told(t, code.Number(n), plain(n), "a later answer of Number", n)
	}
	for n := range 5 {
		p := []byte{0xac, 2, 7, 8, 9, 10, 11}
		was := slices.Clone(p)
		_, a, _ := code.Read(p[:2+n])
		_, b, _ := code.Read(p[:2+n])
		over(a)
		told(t, p, was, "what was handed to Read", n)
		told(t, b, was[2:2+n], "another answer of Read", n)
	}
	keys := []uint64{5, 6, 300}
	a, _ := code.Keys(keys)
	b, _ := code.Keys(keys)
	over(a)
	told(t, b, bytesOf(keyed(keys), false), "another answer of Keys")
	same(t, slices.Equal(keys, []uint64{5, 6, 300}), true, "what was handed to Keys")
	l := pairs(5, 1, 6, 300)
	a, _ = code.Pairs(l)
	b, _ = code.Pairs(l)
	over(a)
	told(t, b, bytesOf(pairs(5, 1, 6, 300), true), "another answer of Pairs")
	x, _, _ := code.Parse(b)
	y, _, _ := code.Parse(b)
	clear(x[:cap(x)])
	same(t, slices.Equal(y, l), true, "another answer of Parse")
	told(t, b, bytesOf(l, true), "what was handed to Parse")
}
