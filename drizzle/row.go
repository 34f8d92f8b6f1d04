package drizzle

import "drizzle/api"

const (
	seedFactor = 6364136223846793005
	seedPlus   = 1442695040888963407
	idFactor   = 11400714819323198485
)

// Each plainEvery-th frame tells of one block alone, so that every block comes by in turn whatever the numbers are.
const plainEvery = 4

// Row tells of which blocks a sum is (P3).
func Row(nonce uint64, blocks int, id int) (uint32, api.Errno) {
	if blocks < 1 || blocks > api.MaxBlocks || id < 0 || id >= api.MaxID {
		return 0, api.ErrSize
	}
	if id%plainEvery == 0 {
		return 1 << (id / plainEvery % blocks), api.OK
	}
	return mixedRow(numbers(nonce+uint64(id)*idFactor), uint32(blocks)), api.OK
}

// numbers gives the numbers of a seed, one a call.
func numbers(seed uint64) func() uint32 {
	return func() uint32 {
		seed = seed*seedFactor + seedPlus
		// The lower bits of such a seed come round again too soon.
		return uint32(seed >> 32)
	}
}

// mixedRow draws a row of as many blocks as the first number says.
func mixedRow(next func() uint32, blocks uint32) uint32 {
	r := next()%blocks + 1
	count := (blocks + r - 1) / r
	row := uint32(0)
	for range count {
		row |= 1 << freeBlock(row, next()%blocks, blocks)
	}
	return row
}

// freeBlock is the first block from start on, round behind the last one, that is not in the row.
// It ends because the row is never full: no more blocks are drawn than there are.
func freeBlock(row uint32, start uint32, blocks uint32) uint32 {
	for row>>start&1 == 1 {
		start = (start + 1) % blocks
	}
	return start
}
