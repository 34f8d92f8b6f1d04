package drizzle

import (
	"math"
	"math/bits"
	"sync"
	"testing"

	"drizzle/api"
)

// The rows and numbers written out in these tests were worked out apart from the program, with numbers of any length.

func wantRow(t *testing.T, nonce uint64, blocks int, id int, want uint32) {
	t.Helper()
	if got, e := Row(nonce, blocks, id); got != want || e != api.OK {
		t.Errorf("P3: Row(%d, %d, %d) = %b, %d, want %b", nonce, blocks, id, got, e, want)
	}
}

func TestNumbersOfASeed(t *testing.T) {
	for _, c := range []struct {
		seed uint64
		want [4]uint32
	}{
		{0, [4]uint32{335903614, 436792849, 2599843874, 1723210473}},
		{1, [4]uint32{1817669548, 2187888307, 2784682393, 1644385741}},
		{11400714819323198485, [4]uint32{753593889, 2860545357, 3016003658, 3161050946}},
		{math.MaxUint64, [4]uint32{3149104977, 2980664687, 2415005355, 1802035205}},
	} {
		next := numbers(c.seed)
		for i, want := range c.want {
			if got := next(); got != want {
				t.Errorf("number %d of the seed %d = %d, want %d", i, c.seed, got, want)
			}
		}
	}
}

func TestNumbersDoNotDisturbOneAnother(t *testing.T) {
	one, other := numbers(0), numbers(0)
	one()
	one()
	if got := other(); got != 335903614 {
		t.Errorf("the first number of the seed 0 = %d behind two of another closure", got)
	}
	if got := one(); got != 2599843874 {
		t.Errorf("the third number of the seed 0 = %d behind one of another closure", got)
	}
}

func TestRowOfOneBlock(t *testing.T) {
	for _, nonce := range []uint64{0, 1, 9, 1 << 63, math.MaxUint64} {
		for _, c := range []struct {
			blocks, id int
			want       uint32
		}{
			{8, 0, 1}, {8, 4, 2}, {8, 28, 128}, {8, 32, 1}, {8, 36, 2},
			{5, 16, 16}, {5, 20, 1}, {32, 0, 1}, {32, 124, 1 << 31}, {32, 128, 1},
			{32, 1048572, 1 << 31}, {31, 1048572, 1 << 7}, {1, 1048572, 1},
		} {
			wantRow(t, nonce, c.blocks, c.id, c.want)
		}
	}
}

func TestRowOfAnObjectOfOneBlock(t *testing.T) {
	for id := range 300 {
		wantRow(t, uint64(id)*7, 1, id, 1)
		wantRow(t, math.MaxUint64-uint64(id), 1, api.MaxID-1-id, 1)
	}
}

func TestRowOfSeveralBlocks(t *testing.T) {
	for _, c := range []struct {
		nonce      uint64
		blocks, id int
		want       uint32
	}{
		{0, 4, 1, 0b110},
		{0, 4, 2, 0b1111},
		{0, 4, 3, 0b1},
		{1, 5, 1, 0b10100},
		{77, 8, 1, 0b10100110},
		{77, 32, 2, 0b110010000000001100000000001001},
		{0, 32, 1, 0b11000100001101101110010010101110},
		{0, 31, 2, 0b1000000100000000010001000110001},
		{24, 32, 1, math.MaxUint32},
		{0, 2, 1048575, 0b10},
		{0, 4, 1048573, 0b11},
		{0, 32, 1048575, 0b100000000000010000000000},
		{1 << 32, 5, 1048575, 0b11001},
		{1 << 32, 32, 1048575, 0b10000000000000000000000000000001},
		{1 << 63, 8, 1, 0b1101100},
		{1 << 63, 31, 1048575, 0b1000000100000000000000001000000},
		{math.MaxUint64, 4, 1, 0b1111},
		{math.MaxUint64, 32, 5, 1 << 25},
		{math.MaxUint64, 32, 1048575, 0b100010101010101010011000000100},
	} {
		wantRow(t, c.nonce, c.blocks, c.id, c.want)
	}
}

func TestRowBehindABlockThatIsInAlready(t *testing.T) {
	for _, c := range []struct {
		nonce      uint64
		blocks, id int
		want       uint32
	}{
		{0, 6, 6, 0b100001},    // blocks 5, 5: behind the last one comes block 0
		{11, 5, 3, 0b10011},    // blocks 4, 4, 4
		{11, 6, 3, 0b100011},   // blocks 0, 5, 5
		{5, 8, 3, 0b11100001},  // blocks 6, 5, 6, 7
		{10, 8, 2, 0b10010011}, // blocks 4, 0, 7, 7
	} {
		wantRow(t, c.nonce, c.blocks, c.id, c.want)
	}
}

func TestRowHasAsManyBlocksAsItsFirstNumberSays(t *testing.T) {
	for blocks := 1; blocks <= api.MaxBlocks; blocks++ {
		for id := range 400 {
			nonce := uint64(id) << 55
			row, e := Row(nonce, blocks, id)
			if e != api.OK || uint64(row)>>blocks != 0 {
				t.Fatalf("P3: Row(%d, %d, %d) = %b, %d: a block that is not there", nonce, blocks, id, row, e)
			}
			want := 1
			if id%4 != 0 {
				first := numbers(nonce + uint64(id)*11400714819323198485)()
				r := int(first%uint32(blocks)) + 1
				want = int(math.Ceil(float64(blocks) / float64(r)))
			}
			if got := bits.OnesCount32(row); got != want {
				t.Fatalf("P3: Row(%d, %d, %d) has %d blocks, want %d", nonce, blocks, id, got, want)
			}
		}
	}
}

// foldRows folds a great many rows into one number, so that none of them can change unseen.
func foldRows() uint64 {
	fold := uint64(14695981039346656037)
	add := func(nonce uint64, blocks int, id int) {
		row, _ := Row(nonce, blocks, id)
		fold = (fold ^ uint64(row)) * 1099511628211
	}
	for _, nonce := range []uint64{0, 1, 2, 77, 1 << 32, 1<<32 - 1, 1 << 63, math.MaxUint64} {
		for blocks := 1; blocks <= api.MaxBlocks; blocks++ {
			for id := range 160 {
				add(nonce, blocks, id)
			}
			for id := api.MaxID - 16; id < api.MaxID; id++ {
				add(nonce, blocks, id)
			}
		}
	}
	return fold
}

func TestManyRows(t *testing.T) {
	const want = 14428522467073644325
	if got := foldRows(); got != want {
		t.Errorf("P3: the fold of all rows = %d, want %d", got, uint64(want))
	}
}

func TestRowsOfSeveralGoroutines(t *testing.T) {
	var folds [4]uint64
	var all sync.WaitGroup
	for i := range folds {
		all.Go(func() { folds[i] = foldRows() })
	}
	all.Wait()
	alone := foldRows()
	for i, got := range folds {
		if got != alone {
			t.Errorf("P2: goroutine %d folds the rows to %d, alone they fold to %d", i, got, alone)
		}
	}
}

func TestRowOfWrongSizes(t *testing.T) {
	for _, c := range []struct{ blocks, id int }{
		{0, 0}, {0, 1}, {33, 0}, {33, 1}, {-1, 0}, {-1, 1}, {-8, 4}, {-32, 5},
		{math.MinInt, 0}, {math.MaxInt, 0}, {math.MinInt, 3}, {math.MaxInt, 3},
		{8, -1}, {8, -4}, {8, 1048576}, {8, 1048577}, {1, -1}, {1, 1048576}, {32, -1}, {32, 1048576},
		{8, math.MinInt}, {8, math.MaxInt}, {0, -1}, {33, 1048576}, {math.MinInt, math.MinInt}, {math.MaxInt, math.MaxInt},
	} {
		for _, nonce := range []uint64{0, 5, math.MaxUint64} {
			if row, e := Row(nonce, c.blocks, c.id); row != 0 || e != api.ErrSize {
				t.Errorf("P3: Row(%d, %d, %d) = %b, %d, want 0, ErrSize", nonce, c.blocks, c.id, row, e)
			}
		}
	}
}
