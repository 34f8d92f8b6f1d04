package drizzle

import (
	"encoding/binary"
	"hash/crc32"
	"iter"
	"math/rand"
	"slices"
	"strings"
	"testing"

	"drizzle/api"
	"drizzle/wire"
)

func newReceiver(t *testing.T, block, budget int) *Receiver {
	t.Helper()
	r, e := NewReceiver(api.Config{Block: block, Budget: budget})
	if r == nil || e != api.OK {
		t.Fatalf("P8: NewReceiver of Block %d, Budget %d: %v, %d", block, budget, r, e)
	}
	return r
}

func wantRank(t *testing.T, r *Receiver, number, rank, blocks int) {
	t.Helper()
	if got, want := r.Rank(), (api.Rank{Number: number, Rank: rank, Blocks: blocks}); got != want {
		t.Fatalf("P8: Rank() = %+v, want %+v", got, want)
	}
}

func wantTake(t *testing.T, r *Receiver, data string, number int) {
	t.Helper()
	if got, n, e := r.Take(); got != data || n != number || e != api.OK {
		t.Fatalf("P9: Take() = %x, %d, %d, want %x, %d", got, n, e, data, number)
	}
}

func wantNoneToTake(t *testing.T, r *Receiver) {
	t.Helper()
	if got, n, e := r.Take(); got != "" || n != 0 || e != api.ErrNone {
		t.Fatalf("P9: Take() = %x, %d, %d, want nothing, ErrNone", got, n, e)
	}
}

// wantDone lets a frame come, which is to be answered by the frame that says that the object is done.
func wantDone(t *testing.T, r *Receiver, frame string, number int) string {
	t.Helper()
	l := r.Handle(frame)
	if len(l) != 1 || l[0] != doneOf(number, r.block) {
		t.Fatalf("P8: Handle(%x) = %x, want that object %d is done", frame, l, number)
	}
	return l[0]
}

// wantNoAnswer lets a frame come, which is to be answered by nothing.
func wantNoAnswer(t *testing.T, r *Receiver, frame string) {
	t.Helper()
	if l := r.Handle(frame); len(l) != 0 {
		t.Fatalf("P8: Handle of %d bytes = %x, want nothing", len(frame), l)
	}
}

// wantIgnored lets a text come that changes nothing and is answered by nothing. Nothing may be left to take.
func wantIgnored(t *testing.T, r *Receiver, text string) {
	t.Helper()
	before := r.Rank()
	wantNoAnswer(t, r, text)
	wantRank(t, r, before.Number, before.Rank, before.Blocks)
	wantNoneToTake(t, r)
}

// doneOf is the frame that says that an object is done, made apart from the program.
func doneOf(number, block int) string {
	body := []byte{2, byte(block)}
	body = binary.LittleEndian.AppendUint16(body, uint16(number))
	return string(binary.LittleEndian.AppendUint32(body, crc32.ChecksumIEEE(body)))
}

// frameOf is a frame that tells of the sum of any row of an object.
func frameOf(number int, data string, block int, row uint32) string {
	return wire.Sum{Number: number, Length: len(data), Row: row, Bytes: []byte(laidOver(data, block, row))}.Text()
}

// rankOf is the rank of some rows, worked out block by block.
func rankOf(rows []uint32) int {
	rows = slices.Clone(rows)
	rank := 0
	for j := range 32 {
		with := slices.IndexFunc(rows[rank:], func(row uint32) bool { return row>>j&1 == 1 })
		if with < 0 {
			continue
		}
		rows[rank], rows[rank+with] = rows[rank+with], rows[rank]
		for i := rank + 1; i < len(rows); i++ {
			if rows[i]>>j&1 == 1 {
				rows[i] ^= rows[rank]
			}
		}
		rank++
	}
	return rank
}

func spoil(text string, start int, run uint32) string {
	bytes := []byte(text)
	for j := range 32 {
		if at := start + j; run>>j&1 == 1 && at < 8*len(bytes) {
			bytes[at/8] ^= 1 << (at % 8)
		}
	}
	return string(bytes)
}

// spoiled is a text spoiled by runs of 1 to 32 bits, of each width and wherever one can lie: changed at both ends, everywhere, and in some places between.
func spoiled(text string) iter.Seq[string] {
	draw := rand.New(rand.NewSource(int64(len(text))))
	return func(yield func(string) bool) {
		for start := range 8 * len(text) {
			for width := 1; width <= 32 && start+width <= 8*len(text); width++ {
				ends := uint32(1) | 1<<(width-1)
				inside := (uint32(1)<<(width-1) - 1) &^ 1
				for _, run := range []uint32{ends, ends | inside, ends | draw.Uint32()&inside} {
					if !yield(spoil(text, start, run)) {
						return
					}
				}
			}
		}
	}
}

// noFrames are texts that are frames of neither side, some of them made of one.
func noFrames(frame string) []string {
	texts := []string{
		"\x00" + frame, frame + "\x00", frame + frame, frame + strings.Repeat("\x00", 80), strings.Repeat("x", 9000000), frame[1:],
		frame[len(frame)/2:] + frame[:len(frame)/2], strings.Repeat("\x00", len(frame)), strings.Repeat("\xff", len(frame)),
	}
	for size := range frame {
		texts = append(texts, frame[:size])
	}
	for size := range 2 * api.MaxFrame {
		texts = append(texts, strings.Repeat("\x00", size), strings.Repeat("\x01", size), strings.Repeat("\x02", size), strings.Repeat("\xff", size))
	}
	return texts
}

// scribbler writes into each list that is handed to it and into all earlier ones, spare room too, and sees to it that none is changed by what is written into another.
func scribbler(t *testing.T) func(last []string) {
	var earlier [][]string
	scribble := func(list []string, word string) {
		for i := range list[:cap(list)] {
			list[:cap(list)][i] = word
		}
	}
	return func(last []string) {
		t.Helper()
		answer := strings.Join(last, "|")
		for _, l := range earlier {
			scribble(l, "earlier")
		}
		if got := strings.Join(last, "|"); got != answer {
			t.Fatalf("P2: what was written into an earlier list changed a later one to %x", got)
		}
		scribble(last, "last")
		for _, l := range earlier {
			if slices.Contains(l[:cap(l)], "last") {
				t.Fatalf("P2: what was written into a list changed an earlier one to %x", l)
			}
		}
		earlier = append(earlier, last)
	}
}
