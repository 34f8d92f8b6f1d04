package sums

import (
	"math/rand"
	"strings"
	"testing"

	"drizzle/api"
)

// blocksOf are some blocks of that many bytes.
func blocksOf(draw *rand.Rand, count int, size int) []string {
	blocks := make([]string, count)
	for j := range blocks {
		bytes := make([]byte, size)
		draw.Read(bytes)
		blocks[j] = string(bytes)
	}
	return blocks
}

// laidOver is the sum of a row.
func laidOver(blocks []string, row uint32) []byte {
	sum := make([]byte, len(blocks[0]))
	for j, block := range blocks {
		for i := range len(block) {
			if row>>j&1 == 1 {
				sum[i] ^= block[i]
			}
		}
	}
	return sum
}

func wantJoin(t *testing.T, s *Set, blocks []string) {
	t.Helper()
	if got := s.Join(len(blocks)); string(got) != strings.Join(blocks, "") {
		t.Fatalf("%d blocks come out as %x, want %x", len(blocks), got, strings.Join(blocks, ""))
	}
}

// independentRows are so many rows that suffice, in any order: in the triangle that they are made of each has a lowest block of its own, then some of them are laid over others.
func independentRows(draw *rand.Rand, count int) []uint32 {
	rows := make([]uint32, count)
	for j := range rows {
		rows[j] = (draw.Uint32()<<1 | 1) << j & (1<<count - 1)
	}
	for range 4 * count {
		if i, j := draw.Intn(count), draw.Intn(count); i != j {
			rows[i] ^= rows[j]
		}
	}
	draw.Shuffle(count, func(i, j int) { rows[i], rows[j] = rows[j], rows[i] })
	return rows
}

func TestRowsThatJustSuffice(t *testing.T) {
	draw := rand.New(rand.NewSource(1))
	for range 20 {
		for count := 1; count <= api.MaxBlocks; count++ {
			blocks := blocksOf(draw, count, 1+draw.Intn(api.MaxBlock))
			var s Set
			for i, row := range independentRows(draw, count) {
				if s.Rank() != i {
					t.Fatalf("the rank of %d independent rows is %d", i, s.Rank())
				}
				s.Add(row, laidOver(blocks, row))
			}
			if s.Rank() != count {
				t.Fatalf("the rank of %d independent rows is %d", count, s.Rank())
			}
			wantJoin(t, &s, blocks)
		}
	}
}

func TestRowsThatAreNotIndependent(t *testing.T) {
	draw := rand.New(rand.NewSource(2))
	for count := 2; count <= api.MaxBlocks; count++ {
		blocks := blocksOf(draw, count, 3)
		rows := independentRows(draw, count)
		some, last := rows[:count-1], rows[count-1]
		var s Set
		for _, row := range some {
			s.Add(row, laidOver(blocks, row))
		}
		for range 50 {
			mixed := uint32(0)
			for _, row := range some {
				if draw.Intn(2) == 0 {
					mixed ^= row
				}
			}
			s.Add(mixed, laidOver(blocks, mixed))
			if s.Rank() != count-1 {
				t.Fatalf("a row that is a sum of others raises the rank of %d to %d", count-1, s.Rank())
			}
		}
		s.Add(last, laidOver(blocks, last))
		wantJoin(t, &s, blocks)
	}
}

func TestRowOfNoBlock(t *testing.T) {
	var s Set
	s.Add(0, []byte("rain"))
	if s.Rank() != 0 {
		t.Errorf("the rank of the row 0 is %d", s.Rank())
	}
}

func TestAddLeavesTheBytesAsTheyAre(t *testing.T) {
	var s Set
	all, second := []byte{1 ^ 2 ^ 4}, []byte{2}
	s.Add(0b010, second)
	s.Add(0b111, all)
	s.Add(0b100, []byte{4})
	all[0], second[0] = 99, 99
	wantJoin(t, &s, []string{"\x01", "\x02", "\x04"})
	if all[0] != 99 || second[0] != 99 {
		t.Errorf("the bytes that were handed in are %d and %d now", all[0], second[0])
	}
}
