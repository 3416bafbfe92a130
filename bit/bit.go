// Package bit is layer 1: see shared/doc/01-bit.md.
package bit

import (
	"iter"
	"math/bits"
)

// size is how many bits a word has.
const size = 64

func Get(w uint64, i int) bool { return w&one(i) != 0 }

func Set(w uint64, i int) uint64 { return w | one(i) }

func Clear(w uint64, i int) uint64 { return w &^ one(i) }

func Count(w uint64) int { return bits.OnesCount64(w) }

func Low(w uint64) int {
	if w == 0 {
		return -1
	}
	return bits.TrailingZeros64(w)
}

func High(w uint64) int { return bits.Len64(w) - 1 }

func Next(w uint64, i int) int { return Low(w & Mask(i, size)) }

func Prev(w uint64, i int) int {
	// i + 1 would wrap round at the greatest int.
	if i >= size {
		return High(w)
	}
	return High(w & Mask(0, i+1))
}

func Rank(w uint64, i int) int { return Count(w & Mask(0, i)) }

func Select(w uint64, k int) int {
	if k < 0 || k >= Count(w) {
		return -1
	}
	for range k {
		w = withoutLow(w)
	}
	return Low(w)
}

func Mask(from, to int) uint64 {
	from, to = max(from, 0), min(to, size)
	if from >= to {
		return 0
	}
	return ^uint64(0) << from & (^uint64(0) >> (size - to))
}

func Rising(w uint64) iter.Seq[int] {
	return func(yield func(int) bool) {
		// w itself stays, for whoever goes through it again.
		for rest := w; rest != 0; rest = withoutLow(rest) {
			if !yield(Low(rest)) {
				return
			}
		}
	}
}

func Falling(w uint64) iter.Seq[int] {
	return func(yield func(int) bool) {
		for rest := w; rest != 0; rest = Clear(rest, High(rest)) {
			if !yield(High(rest)) {
				return
			}
		}
	}
}

func Make(l ...int) uint64 {
	var w uint64
	for _, i := range l {
		w = Set(w, i)
	}
	return w
}

func Any(l ...uint64) uint64 {
	var w uint64
	for _, v := range l {
		w |= v
	}
	return w
}

func All(l ...uint64) uint64 {
	w := Mask(0, size)
	for _, v := range l {
		w &= v
	}
	return w
}

// one is 0 of a bit that isn't there, so that what is done with it changes nothing.
func one(i int) uint64 {
	if i < 0 || i >= size {
		return 0
	}
	return 1 << i
}

func withoutLow(w uint64) uint64 { return w & (w - 1) }
