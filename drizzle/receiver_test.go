package drizzle

import (
	"math"
	"math/rand"
	"reflect"
	"strings"
	"testing"

	"drizzle/api"
	"drizzle/wire"
)

func TestConfigOfAReceiver(t *testing.T) {
	for _, c := range badConfigs {
		if r, e := NewReceiver(c); r != nil || e != api.ErrSize {
			t.Errorf("P8: NewReceiver(%+v) = %v, %d, want nil, ErrSize", c, r, e)
		}
	}
	for _, c := range outermostConfigs {
		r := newReceiver(t, c.Block, c.Budget)
		wantRank(t, r, 0, 0, 0)
		wantNoneToTake(t, r)
	}
}

func TestObjectsComeOutByteForByte(t *testing.T) {
	for _, block := range []int{1, 2, 7, 31, 32} {
		for _, length := range []int{0, 1, block - 1, block, block + 1, 5*block - 1, 5 * block, 31*block + 1, 32*block - 1, 32 * block} {
			some := bytesOf(length)
			for _, data := range []string{
				some,
				strings.Repeat("\x00", length),
				some[:length/2] + strings.Repeat("\x00", length-length/2),
				strings.Repeat("\x00", length/2) + some[length/2:],
			} {
				wantBlockByBlock(t, data, block)
			}
		}
	}
}

// wantBlockByBlock lets the blocks of an object come from the last one on: none of them can be missed.
func wantBlockByBlock(t *testing.T, data string, block int) {
	t.Helper()
	r := newReceiver(t, block, 20)
	blocks := max(1, int(math.Ceil(float64(len(data))/float64(block))))
	for j := blocks - 1; j >= 0; j-- {
		frame := frameOf(1, data, block, 1<<j)
		if j > 0 {
			wantNoAnswer(t, r, frame)
			wantNoneToTake(t, r)
		} else {
			wantDone(t, r, frame, 1)
		}
		wantRank(t, r, 1, blocks-j, blocks)
	}
	wantTake(t, r, data, 1)
	wantNoneToTake(t, r)
}

// rowsThatSuffice are so many independent rows: each has the block that is its own, and perhaps some of those ahead of it.
func rowsThatSuffice(draw *rand.Rand, blocks int) []uint32 {
	rows := make([]uint32, blocks)
	for j := range rows {
		rows[j] = 1<<j | draw.Uint32()&(1<<j-1)
	}
	draw.Shuffle(blocks, func(i, j int) { rows[i], rows[j] = rows[j], rows[i] })
	return rows
}

func TestRowsThatJustSufficeAndAsManyThatDoNot(t *testing.T) {
	draw := rand.New(rand.NewSource(3))
	for blocks := 2; blocks <= api.MaxBlocks; blocks++ {
		for range 10 {
			data := bytesOf(3*blocks - draw.Intn(3))
			rows := rowsThatSuffice(draw, blocks)
			some, last := rows[:blocks-1], rows[blocks-1]
			r := newReceiver(t, 3, 20)
			for i, row := range some {
				wantNoAnswer(t, r, frameOf(7, data, 3, row))
				wantRank(t, r, 7, i+1, blocks)
			}
			wantIgnored(t, r, frameOf(7, data, 3, some[draw.Intn(len(some))]))
			if blocks > 2 {
				wantIgnored(t, r, frameOf(7, data, 3, some[0]^some[1]))
			}
			wantDone(t, r, frameOf(7, data, 3, last), 7)
			wantRank(t, r, 7, blocks, blocks)
			wantTake(t, r, data, 7)
		}
	}
}

func TestRowsOfTwoBlocks(t *testing.T) {
	for _, c := range []struct{ rows, ranks []int }{
		{[]int{0, 4}, []int{1, 2}},
		{[]int{4, 0}, []int{1, 2}},
		{[]int{0, 8}, []int{1, 1}},
		{[]int{4, 12, 4}, []int{1, 1, 1}},
		{[]int{8, 0, 16, 12}, []int{1, 1, 1, 2}},
	} {
		s, r := newSender(t, 4, 20), newReceiver(t, 4, 20)
		wantSubmit(t, s, "hello", 2, 1)
		var frames []string
		for range 20 {
			frames = append(frames, wantFrame(t, s))
		}
		for i, id := range c.rows {
			if c.ranks[i] == 2 {
				wantDone(t, r, frames[id], 1)
			} else {
				wantNoAnswer(t, r, frames[id])
			}
			wantRank(t, r, 1, c.ranks[i], 2)
		}
		if c.ranks[len(c.ranks)-1] == 2 {
			wantTake(t, r, "hello", 1)
		}
		wantNoneToTake(t, r)
	}
}

// inEachOrder calls for each order of the rows.
func inEachOrder(rows []uint32, call func([]uint32)) {
	var swap func(int)
	swap = func(from int) {
		if from == len(rows) {
			call(rows)
		}
		for i := from; i < len(rows); i++ {
			rows[from], rows[i] = rows[i], rows[from]
			swap(from + 1)
			rows[from], rows[i] = rows[i], rows[from]
		}
	}
	swap(0)
}

func TestRowsInEachOrder(t *testing.T) {
	data := bytesOf(7)
	inEachOrder([]uint32{0b001, 0b011, 0b111, 0b101, 0b110, 0b011}, func(rows []uint32) {
		r := newReceiver(t, 3, 20)
		for i, row := range rows {
			rank := rankOf(rows[:i+1])
			if rank == 3 {
				wantDone(t, r, frameOf(1, data, 3, row), 1)
			} else {
				wantNoAnswer(t, r, frameOf(1, data, 3, row))
			}
			wantRank(t, r, 1, rank, 3)
		}
		wantTake(t, r, data, 1)
		wantNoneToTake(t, r)
	})
}

func TestFrameOfADeliveredObject(t *testing.T) {
	r := newReceiver(t, 4, 20)
	wantNoAnswer(t, r, frameOf(3, "hello", 4, 1))
	wantDone(t, r, frameOf(3, "hello", 4, 3), 3)
	for _, row := range []uint32{1, 2, 3, 1} {
		wantDone(t, r, frameOf(3, "hello", 4, row), 3)
		wantRank(t, r, 3, 2, 2)
	}
	wantTake(t, r, "hello", 3)
	wantDone(t, r, frameOf(3, "hello", 4, 2), 3)
	wantNoneToTake(t, r)
	wantNoAnswer(t, r, frameOf(5, "another one", 4, 1))
	wantDone(t, r, frameOf(3, "hello", 4, 2), 3)
	wantRank(t, r, 5, 1, 3)
	wantNoneToTake(t, r)
	wantNoAnswer(t, r, frameOf(5, "another one", 4, 2))
	wantDone(t, r, frameOf(5, "another one", 4, 4), 5)
	wantDone(t, r, frameOf(3, "hello", 4, 1), 3)
	wantRank(t, r, 5, 3, 3)
	wantTake(t, r, "another one", 5)
	wantNoneToTake(t, r)
}

func TestFrameOfALesserNumber(t *testing.T) {
	r := newReceiver(t, 4, 20)
	wantNoAnswer(t, r, frameOf(3, "hello", 4, 2))
	wantIgnored(t, r, frameOf(2, "rain", 4, 1)) // it would suffice
	wantIgnored(t, r, frameOf(1, "", 4, 1))
	wantIgnored(t, r, frameOf(2, "hello", 4, 1))
	wantRank(t, r, 3, 1, 2)
	wantDone(t, r, frameOf(3, "hello", 4, 1), 3)
	wantTake(t, r, "hello", 3)
	wantIgnored(t, r, frameOf(2, "rain", 4, 1)) // and so when the last one was delivered
	wantRank(t, r, 3, 2, 2)
	wantDone(t, r, frameOf(500, "", 4, 1), 500)
	wantTake(t, r, "", 500)
	wantIgnored(t, r, frameOf(499, "", 4, 1))
	wantRank(t, r, 500, 1, 1)
}

func TestFrameOfAGreaterNumberWhileAnotherIsUnderWay(t *testing.T) {
	first, second := bytesOf(12), bytesOf(11)
	r := newReceiver(t, 4, 20)
	wantNoAnswer(t, r, frameOf(1, first, 4, 1))
	wantNoAnswer(t, r, frameOf(1, first, 4, 2))
	wantRank(t, r, 1, 2, 3)
	wantNoAnswer(t, r, frameOf(2, second, 4, 4))
	wantRank(t, r, 2, 1, 3) // the rows of object 1 are not among those of object 2
	wantIgnored(t, r, frameOf(1, first, 4, 4))
	wantNoAnswer(t, r, frameOf(2, second, 4, 1))
	wantRank(t, r, 2, 2, 3)
	wantDone(t, r, frameOf(2, second, 4, 7), 2)
	wantTake(t, r, second, 2)
	wantNoneToTake(t, r)
}

func TestOrderOfTaking(t *testing.T) {
	r := newReceiver(t, 1, 20)
	for _, n := range []int{2, 3, 7} {
		wantDone(t, r, frameOf(n, string(rune('a'+n)), 1, 1), n)
	}
	wantTake(t, r, "c", 2)
	wantDone(t, r, frameOf(9, "j", 1, 1), 9)
	wantTake(t, r, "d", 3)
	wantTake(t, r, "h", 7)
	wantTake(t, r, "j", 9)
	wantNoneToTake(t, r)
	wantNoneToTake(t, r)
	wantDone(t, r, frameOf(10, "", 1, 1), 10)
	wantTake(t, r, "", 10)
	wantNoneToTake(t, r)
	wantRank(t, r, 10, 1, 1)
}

func TestFiveHundredAreDelivered(t *testing.T) {
	r := newReceiver(t, 2, 20)
	for n := 1; n <= api.MaxNumber; n++ {
		wantNoAnswer(t, r, frameOf(n, bytesOf(3+n%2), 2, 3))
		wantDone(t, r, frameOf(n, bytesOf(3+n%2), 2, 2), n)
		wantRank(t, r, n, 2, 2)
	}
	for n := 1; n <= api.MaxNumber; n++ {
		wantTake(t, r, bytesOf(3+n%2), n)
		wantDone(t, r, frameOf(n, bytesOf(3+n%2), 2, 1), n)
	}
	wantNoneToTake(t, r)
}

// stages are receivers to which a wrong text may come: none has anything to take. The frame would do something at each.
func stages(t *testing.T, block int) (frame string, receivers []*Receiver) {
	t.Helper()
	data := bytesOf(2 * block)
	fresh, begun, done, later := newReceiver(t, block, 20), newReceiver(t, block, 20), newReceiver(t, block, 20), newReceiver(t, block, 20)
	wantNoAnswer(t, begun, frameOf(1, data, block, 2))
	for _, r := range []*Receiver{done, later} {
		wantNoAnswer(t, r, frameOf(1, data, block, 1))
		wantDone(t, r, frameOf(1, data, block, 2), 1)
		wantTake(t, r, data, 1)
	}
	wantNoAnswer(t, later, frameOf(2, data, block, 1))
	return frameOf(1, data, block, 1), []*Receiver{fresh, begun, done, later}
}

func TestSpoiledFramesAtAReceiver(t *testing.T) {
	for _, block := range []int{1, 4, 32} {
		frame, receivers := stages(t, block)
		back := doneOf(1, block)
		for i, r := range receivers {
			for text := range spoiled(frame) {
				wantIgnored(t, r, text)
			}
			for text := range spoiled(back) {
				wantIgnored(t, r, text)
			}
			wantNotDisturbed(t, i, r, frame)
		}
	}
}

// wantNotDisturbed lets the frame of the stages come at last, which does what it would have done.
func wantNotDisturbed(t *testing.T, stage int, r *Receiver, frame string) {
	t.Helper()
	if stage == 0 {
		wantNoAnswer(t, r, frame)
		wantRank(t, r, 1, 1, 2)
		return
	}
	before := r.Rank()
	wantDone(t, r, frame, 1)
	if stage == 1 {
		before.Rank = 2
		wantTake(t, r, bytesOf(2*r.block), 1)
	}
	wantRank(t, r, before.Number, before.Rank, before.Blocks)
	wantNoneToTake(t, r)
}

func TestWrongTextsAtAReceiver(t *testing.T) {
	for _, block := range []int{1, 4, 32} {
		frame, receivers := stages(t, block)
		texts := noFrames(frame)
		for number := range 502 {
			texts = append(texts, doneOf(number, block)) // they come back to the side that sends them
		}
		texts = append(texts, frameOf(1, bytesOf(20), block%32+1, 1), frameOf(2, "", block%32+1, 1)) // of another network
		for i, r := range receivers {
			for _, text := range texts {
				wantIgnored(t, r, text)
			}
			wantNotDisturbed(t, i, r, frame)
		}
	}
}

func TestFramesThatNoSenderSends(t *testing.T) {
	for _, block := range []int{1, 4, 32} {
		frame, receivers := stages(t, block)
		sum := make([]byte, block)
		var texts []string
		for _, s := range []wire.Sum{
			{Number: 0, Length: 0, Row: 1}, {Number: 0, Length: 1, Row: 1}, {Number: 501, Length: 1, Row: 1}, {Number: math.MaxUint16, Length: 1, Row: 1},
			{Number: 3, Length: 32*block + 1, Row: 1}, {Number: 3, Length: math.MaxUint16, Row: 1},
			{Number: 3, Length: 0, Row: 2}, {Number: 3, Length: block, Row: 2}, {Number: 3, Length: 31 * block, Row: 1 << 31}, {Number: 3, Length: block, Row: math.MaxUint32},
			{Number: 3, Length: 2 * block, Row: 0}, {Number: 3, Length: 32 * block, Row: 0},
		} {
			s.Bytes = sum
			texts = append(texts, s.Text())
		}
		for i, r := range receivers {
			for _, text := range texts {
				wantIgnored(t, r, text)
			}
			wantNotDisturbed(t, i, r, frame)
		}
	}
}

func TestFrameOfTheSameNumberAndAnotherLength(t *testing.T) {
	r := newReceiver(t, 4, 20)
	wantNoAnswer(t, r, frameOf(1, "hello", 4, 1))
	for _, other := range []string{"", "rain", "hello!", "hello you", strings.Repeat("x", 128)} {
		for row := uint32(1); row < 1<<blockCount(len(other), 4); row <<= 1 {
			wantIgnored(t, r, frameOf(1, other, 4, row))
		}
	}
	wantDone(t, r, frameOf(1, "hello", 4, 2), 1)
	wantTake(t, r, "hello", 1)
}

func TestReceiverKeepsNoMoreThanItNeeds(t *testing.T) {
	r := newReceiver(t, 4, 20)
	for n := 1; n <= 3; n++ {
		wantNoAnswer(t, r, frameOf(n, "hello", 4, 1))
		wantDone(t, r, frameOf(n, "hello", 4, 2), n)
	}
	if got := r.sums.Rank(); got != 0 {
		t.Errorf("of an object that was delivered %d sums are kept", got)
	}
	room := r.ready
	for n := 1; n <= 3; n++ {
		wantTake(t, r, "hello", n)
	}
	for _, p := range room {
		if p != (parcel{}) {
			t.Errorf("of an object that was taken %+v is kept", p)
		}
	}
}

// receiverAnswers is all that a receiver tells in a run with several objects; disturb is called between its calls, with what Handle answered last.
func receiverAnswers(t *testing.T, disturb func(last []string)) []any {
	t.Helper()
	r := newReceiver(t, 5, 100)
	draw := rand.New(rand.NewSource(4))
	var all []any
	for i := range 300 {
		number := 1 + i/30
		row := 1 + draw.Uint32()%7
		if i%7 == 0 {
			number = 1 + draw.Intn(number)
		}
		l := r.Handle(frameOf(number, bytesOf(11+number%5), 5, row))
		all = append(all, strings.Join(l, "|"), r.Rank())
		disturb(l)
		if i%4 == 0 {
			data, n, e := r.Take()
			all = append(all, data, n, e)
		}
	}
	return all
}

func TestListsOfAReceiverAreNewMemory(t *testing.T) {
	scribbled := receiverAnswers(t, scribbler(t))
	if !reflect.DeepEqual(scribbled, receiverAnswers(t, func([]string) {})) {
		t.Error("P2: what was written into the lists of Handle changed later answers")
	}
}

func TestReceiversDoNotDisturbOneAnother(t *testing.T) {
	other := newReceiver(t, 5, 100)
	number := 0
	beside := receiverAnswers(t, func([]string) {
		number++
		other.Handle(frameOf(number, "quite other bytes", 5, 1+uint32(number)%15))
		other.Take()
		NewReceiver(api.Config{Block: 5, Budget: 0})
	})
	if !reflect.DeepEqual(beside, receiverAnswers(t, func([]string) {})) {
		t.Error("P2: another receiver changed the answers")
	}
}
