// Package strip is layer 2: see shared/doc/02-strip.md.
package strip

import (
	"iter"
	"slices"

	"stepstone/api"
	"stepstone/bit"
)

// size is how many bits a word has.
const size = 64

// Strip is words behind one another.
type Strip struct {
	words []uint64
}

func New(words int) (*Strip, api.Errno) {
	if words < 0 || words > api.MaxWords {
		return nil, api.ErrArg
	}
	return &Strip{words: make([]uint64, words)}, api.OK
}

func Of(words []uint64) (*Strip, api.Errno) {
	s, e := New(len(words))
	if e != api.OK {
		return nil, e
	}
	copy(s.words, words)
	return s, api.OK
}

func (s *Strip) Bits() int {
	if s == nil {
		return 0
	}
	return len(s.words) * size
}

func (s *Strip) Words() []uint64 {
	if s == nil {
		return nil
	}
	l := make([]uint64, len(s.words))
	copy(l, s.words)
	return l
}

func (s *Strip) Get(i int) bool {
	return s.there(i) && bit.Get(s.words[i/size], i%size)
}

func (s *Strip) Set(i int) bool {
	if !s.there(i) || s.Get(i) {
		return false
	}
	s.words[i/size] = bit.Set(s.words[i/size], i%size)
	return true
}

func (s *Strip) Clear(i int) bool {
	if !s.Get(i) {
		return false
	}
	s.words[i/size] = bit.Clear(s.words[i/size], i%size)
	return true
}

func (s *Strip) Fill(from, to int) int {
	return s.change(from, to, func(w, mask uint64) uint64 { return w | mask })
}

func (s *Strip) Wipe(from, to int) int {
	return s.change(from, to, func(w, mask uint64) uint64 { return w &^ mask })
}

func (s *Strip) Count() int { return s.Rank(s.Bits()) }

func (s *Strip) Next(i int) int {
	i = max(i, 0)
	for at := i / size; at*size < s.Bits(); at++ {
		if b := bit.Next(s.words[at], i-at*size); b >= 0 {
			return at*size + b
		}
	}
	return -1
}

func (s *Strip) Prev(i int) int {
	i = min(i, s.Bits()-1)
	// -1 / 64 is 0, which is a word that is there, or isn't.
	if i < 0 {
		return -1
	}
	for at := i / size; at >= 0; at-- {
		if b := bit.Prev(s.words[at], i-at*size); b >= 0 {
			return at*size + b
		}
	}
	return -1
}

func (s *Strip) Rank(i int) int {
	i = min(i, s.Bits())
	n := 0
	for at := 0; at*size < i; at++ {
		n += bit.Rank(s.words[at], i-at*size)
	}
	return n
}

func (s *Strip) Select(k int) int {
	if s == nil || k < 0 {
		return -1
	}
	for at, w := range s.words {
		n := bit.Count(w)
		if k < n {
			return at*size + bit.Select(w, k)
		}
		k -= n
	}
	return -1
}

func (s *Strip) All() iter.Seq[int] {
	return func(yield func(int) bool) {
		if s == nil {
			return
		}
		for at, w := range s.words {
			for b := range bit.Rising(w) {
				if !yield(at*size + b) {
					return
				}
			}
		}
	}
}

func (s *Strip) Copy() *Strip {
	if s == nil {
		return nil
	}
	return &Strip{words: s.Words()}
}

func (s *Strip) Equal(o *Strip) bool {
	if s == nil || o == nil {
		return s == o
	}
	return slices.Equal(s.words, o.words)
}

func Or(l ...*Strip) (*Strip, api.Errno) { return join(bit.Any, l) }

func And(l ...*Strip) (*Strip, api.Errno) { return join(bit.All, l) }

func (s *Strip) there(i int) bool { return i >= 0 && i < s.Bits() }

func (s *Strip) change(from, to int, f func(w, mask uint64) uint64) int {
	from, to = max(from, 0), min(to, s.Bits())
	n := 0
	for at := from / size; at*size < to; at++ {
		was := s.words[at]
		s.words[at] = f(was, bit.Mask(from-at*size, to-at*size))
		n += bit.Count(was ^ s.words[at])
	}
	return n
}

func join(f func(l ...uint64) uint64, l []*Strip) (*Strip, api.Errno) {
	if !alike(l) {
		return nil, api.ErrArg
	}
	s := &Strip{words: make([]uint64, len(l[0].words))}
	column := make([]uint64, len(l))
	for at := range s.words {
		for i, o := range l {
			column[i] = o.words[at]
		}
		s.words[at] = f(column...)
	}
	return s, api.OK
}

// alike tells whether there are strips at all, none nil, and all of as many words.
func alike(l []*Strip) bool {
	if len(l) == 0 {
		return false
	}
	for _, s := range l {
		if s == nil || s.Bits() != l[0].Bits() {
			return false
		}
	}
	return true
}
