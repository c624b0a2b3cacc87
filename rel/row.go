package rel

import (
	"iter"
	"math/bits"
)

// row is a set of numbers, a bit of its words each.
type row []uint64

// width is the number of bits of a word.
const width = 64

// rowFor has room for the numbers below count.
func rowFor(count int) row {
	return make(row, (count+width-1)/width)
}

func (r row) add(n int) {
	r[n/width] |= 1 << (n % width)
}

func (r row) has(n int) bool {
	return r[n/width]>>(n%width)&1 == 1
}

// join adds the numbers of a set with as much room.
func (r row) join(other row) {
	for i, word := range other {
		r[i] |= word
	}
}

// all yields the numbers in ascending order.
func (r row) all() iter.Seq[int] {
	return func(yield func(int) bool) {
		for i, word := range r {
			// Each round removes the lowest bit.
			for ; word != 0; word &= word - 1 {
				if !yield(i*width + bits.TrailingZeros64(word)) {
					return
				}
			}
		}
	}
}
