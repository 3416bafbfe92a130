package roar

import "stepstone/box"

// bitmapCost is what layer 9 says that a bitmap costs.
const bitmapCost = 1024

// part is the keys of one upper.
type part struct {
	upper uint64
	// keys is how many: a bitmap would count them each time.
	keys int
	box  *box.Box
}

func (x *part) key(lower uint16) uint64 { return x.upper<<16 | uint64(lower) }

// use is how much is used for it as it is kept.
func (x *part) use() int {
	if x.keys == 0 {
		return 0
	}
	return 1 + x.box.Cost()
}

// plainUse is how much is used for a part of so many keys, if its box is plain.
func plainUse(keys int) int {
	switch {
	case keys == 0:
		return 0
	case keys > box.Most:
		return 1 + bitmapCost
	}
	return 1 + keys
}

// more is how much more is used for it with n keys more: its box is plain then, if that changes any.
func (x *part) more(n int) int {
	if n == 0 {
		return 0
	}
	return plainUse(x.keys+n) - x.use()
}

// piece is a part's keys with the lowers from first up to last.
type piece struct {
	*part
	place       place
	first, last uint16
}

// there is how many of them are in the part.
func (c piece) there() int {
	n := c.box.Rank(c.last) - c.box.Rank(c.first)
	if c.box.Has(c.last) {
		n++
	}
	return n
}

func (c piece) missing() int { return int(c.last) - int(c.first) + 1 - c.there() }
