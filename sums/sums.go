// Package sums: the sums that have come of an object, and how its blocks come out of them.
package sums

import (
	"math/bits"
	"slices"

	"drizzle/api"
)

// Set holds sums of one object whose rows are independent. A Set without any needs no making.
type Set struct {
	byLowest [api.MaxBlocks]sum // the sum whose lowest block is j stands at j; where there is none, the row is 0
	rank     int
}

// sum is a row, and the bytes of its blocks laid over one another.
type sum struct {
	row   uint32
	bytes []byte
}

// Add takes a sum in, if its row is independent of those that are there.
func (s *Set) Add(row uint32, bytes []byte) {
	left := sum{row: row, bytes: slices.Clone(bytes)}
	// Each round takes the lowest block out of what is left, and puts in none below it.
	for left.row != 0 {
		there := &s.byLowest[bits.TrailingZeros32(left.row)]
		if there.row == 0 {
			*there = left
			s.rank++
			return
		}
		left.add(*there)
	}
}

// add lays another sum over this one.
func (s *sum) add(other sum) {
	s.row ^= other.row
	for i, b := range other.bytes {
		s.bytes[i] ^= b
	}
}

// Rank is the rank of all rows that were added.
func (s *Set) Rank() int {
	return s.rank
}

// Join is the first blocks, so many, one behind the other. The rows that were added must suffice for just these.
func (s *Set) Join(blocks int) []byte {
	// From the last one on: of the blocks behind it each then stands alone already.
	for j := blocks - 1; j >= 0; j-- {
		s.leaveAlone(j)
	}
	var joined []byte
	for _, one := range s.byLowest[:blocks] {
		joined = append(joined, one.bytes...)
	}
	return joined
}

// leaveAlone takes all blocks but the lowest one out of a sum.
func (s *Set) leaveAlone(lowest int) {
	one := &s.byLowest[lowest]
	for others := one.row &^ (1 << lowest); others != 0; others &= others - 1 {
		one.add(s.byLowest[bits.TrailingZeros32(others)])
	}
}
