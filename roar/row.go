package roar

import (
	"iter"
	"slices"
	"sort"
)

// most is how many parts a block has at most.
const most = 512

// row is parts, rising by their uppers. They stand in blocks: so a part that comes or goes moves those behind it in its block, and not all others.
type row struct {
	blocks []block
	parts  int
}

// block is parts, one at least, one behind the other.
type block struct {
	parts []*part
	// keys is how many they have: so Rank and Select needn't go through the parts of all blocks.
	keys int
}

// place is where a part stands in a row, or would.
type place struct{ block, at int }

func blockOf(l []*part) block {
	b := block{parts: l}
	for _, x := range l {
		b.keys += x.keys
	}
	return b
}

// end is behind all parts.
func (r *row) end() place { return place{block: len(r.blocks)} }

// seek answers the place of the first part whose upper is u or above; look is called for each part that is looked at.
func (r *row) seek(u uint64, look func()) place {
	reaches := func(x *part) bool {
		look()
		return x.upper >= u
	}
	i := sort.Search(len(r.blocks), func(i int) bool {
		l := r.blocks[i].parts
		return reaches(l[len(l)-1])
	})
	if i == len(r.blocks) {
		return r.end()
	}
	l := r.blocks[i].parts
	return place{i, sort.Search(len(l), func(at int) bool { return reaches(l[at]) })}
}

// at is nil ahead of all parts and behind them.
func (r *row) at(p place) *part {
	if p.block < 0 || p.block >= len(r.blocks) {
		return nil
	}
	return r.blocks[p.block].parts[p.at]
}

func (r *row) behind(p place) place {
	if p.at+1 < len(r.blocks[p.block].parts) {
		return place{p.block, p.at + 1}
	}
	return place{block: p.block + 1}
}

func (r *row) ahead(p place) place {
	switch {
	case p.at > 0:
		return place{p.block, p.at - 1}
	case p.block > 0:
		return place{p.block - 1, len(r.blocks[p.block-1].parts) - 1}
	}
	return place{block: -1}
}

// from is the parts from p on.
func (r *row) from(p place) iter.Seq[*part] {
	return func(yield func(*part) bool) {
		for q := p; r.at(q) != nil; q = r.behind(q) {
			if !yield(r.at(q)) {
				return
			}
		}
	}
}

// rank is how many keys the parts ahead of p have.
func (r *row) rank(p place) int {
	n := 0
	for _, b := range r.blocks[:p.block] {
		n += b.keys
	}
	if p != r.end() {
		n += blockOf(r.blocks[p.block].parts[:p.at]).keys
	}
	return n
}

// pick answers the part that has the key i of all, and the key's place in it.
func (r *row) pick(i int) (*part, int) {
	for _, b := range r.blocks {
		if i >= b.keys {
			i -= b.keys
			continue
		}
		for _, x := range b.parts {
			if i < x.keys {
				return x, i
			}
			i -= x.keys
		}
	}
	return nil, 0
}

// count is told that the part at p has n keys more.
func (r *row) count(p place, n int) { r.blocks[p.block].keys += n }

// insert lets x stand at p, ahead of the part that stands there.
func (r *row) insert(p place, x *part) {
	r.parts++
	if p == r.end() {
		r.blocks = append(r.blocks, blockOf([]*part{x}))
		r.join(p.block - 1)
		return
	}
	b := &r.blocks[p.block]
	b.parts = slices.Insert(b.parts, p.at, x)
	b.keys += x.keys
	if len(b.parts) > most {
		r.split(p.block)
	}
}

// remove is of a part that has no keys any more.
func (r *row) remove(p place) {
	r.parts--
	b := &r.blocks[p.block]
	b.parts = slices.Delete(b.parts, p.at, p.at+1)
	if len(b.parts) == 0 {
		r.blocks = slices.Delete(r.blocks, p.block, p.block+1)
	}
	r.join(p.block)
	r.join(p.block - 1)
}

func (r *row) split(i int) {
	l := r.blocks[i].parts
	half := len(l) / 2
	r.blocks[i] = blockOf(slices.Clone(l[:half]))
	r.blocks = slices.Insert(r.blocks, i+1, blockOf(slices.Clone(l[half:])))
}

// join makes one of a block and the one behind it, if they have few parts: else, as parts go, as many blocks would stay.
func (r *row) join(i int) {
	if i < 0 || i+1 >= len(r.blocks) {
		return
	}
	a, b := r.blocks[i], r.blocks[i+1]
	if len(a.parts)+len(b.parts) <= most/2 {
		r.blocks[i] = block{append(a.parts, b.parts...), a.keys + b.keys}
		r.blocks = slices.Delete(r.blocks, i+1, i+2)
	}
}
