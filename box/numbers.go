package box

import (
	"slices"

	"stepstone/array"
	"stepstone/bitmap"
	"stepstone/runs"
)

// bitmapCost is what a bitmap costs, whatever it has.
const bitmapCost = 1024

// numbers is what is told of numbers, whichever way they are kept in.
type numbers interface {
	Len() int
	Has(v uint16) bool
	Next(v uint16) (uint16, bool)
	Prev(v uint16) (uint16, bool)
	Rank(v uint16) int
	Select(k int) (uint16, bool)
	list() []uint16
	cost() int
	copied() numbers
}

type (
	asArray  []uint16
	asBitmap struct{ *bitmap.Bitmap }
	asRuns   []runs.Run
)

func (a asArray) Len() int                     { return len(a) }
func (a asArray) Has(v uint16) bool            { return array.Has(a, v) }
func (a asArray) Next(v uint16) (uint16, bool) { return array.Next(a, v) }
func (a asArray) Prev(v uint16) (uint16, bool) { return array.Prev(a, v) }
func (a asArray) Rank(v uint16) int            { return array.Rank(a, v) }
func (a asArray) Select(k int) (uint16, bool)  { return array.Select(a, k) }
func (a asArray) list() []uint16               { return slices.Clone(a) }
func (a asArray) cost() int                    { return len(a) }
func (a asArray) copied() numbers              { return slices.Clone(a) }

// The bitmap tells all else itself.
func (m asBitmap) list() []uint16  { return slices.Collect(m.All()) }
func (m asBitmap) cost() int       { return bitmapCost }
func (m asBitmap) copied() numbers { return asBitmap{m.Copy()} }

func (r asRuns) Len() int                     { return runs.Len(r) }
func (r asRuns) Has(v uint16) bool            { return runs.Has(r, v) }
func (r asRuns) Next(v uint16) (uint16, bool) { return runs.Next(r, v) }
func (r asRuns) Prev(v uint16) (uint16, bool) { return runs.Prev(r, v) }
func (r asRuns) Rank(v uint16) int            { return runs.Rank(r, v) }
func (r asRuns) Select(k int) (uint16, bool)  { return runs.Select(r, k) }
func (r asRuns) list() []uint16               { return runs.List(r) }
func (r asRuns) cost() int                    { return 2 * len(r) }
func (r asRuns) copied() numbers              { return slices.Clone(r) }

func kind(n numbers) int {
	switch n.(type) {
	case asArray:
		return Array
	case asBitmap:
		return Bitmap
	case asRuns:
		return Runs
	}
	return 0
}

// plain is n itself where n is plain.
func plain(n numbers) numbers {
	wanted := Bitmap
	if n.Len() <= Most {
		wanted = Array
	}
	switch {
	case kind(n) == wanted:
		return n
	case wanted == Array:
		return asArray(n.list())
	}
	return asBitmap{bitmap.Of(n.list())}
}

// bits is n's own bitmap, if it has one, else a new one.
func bits(n numbers) *bitmap.Bitmap {
	if m, ok := n.(asBitmap); ok {
		return m.Bitmap
	}
	return bitmap.Of(n.list())
}
