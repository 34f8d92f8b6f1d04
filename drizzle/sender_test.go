package drizzle

import (
	"encoding/binary"
	"fmt"
	"hash/crc32"
	"math"
	"reflect"
	"strings"
	"testing"

	"drizzle/api"
)

func newSender(t *testing.T, block, budget int) *Sender {
	t.Helper()
	s, e := NewSender(api.Config{Block: block, Budget: budget})
	if s == nil || e != api.OK {
		t.Fatalf("P5: NewSender of Block %d, Budget %d: %v, %d", block, budget, s, e)
	}
	return s
}

func wantSubmit(t *testing.T, s *Sender, data string, nonce uint64, want int) {
	t.Helper()
	if n, e := s.Submit(data, nonce); n != want || e != api.OK {
		t.Fatalf("P5: Submit of %d bytes = %d, %d, want %d", len(data), n, e, want)
	}
}

func wantRefused(t *testing.T, s *Sender, length int, want api.Errno) {
	t.Helper()
	if n, e := s.Submit(strings.Repeat("x", length), 1); n != 0 || e != want {
		t.Errorf("P5: Submit of %d bytes = %d, %d, want 0, %d", length, n, e, want)
	}
}

func wantStatus(t *testing.T, s *Sender, number int, state api.State, sent int) {
	t.Helper()
	want := api.Status{State: state, Sent: sent}
	if got, e := s.Status(number); got != want || e != api.OK {
		t.Errorf("P5: Status(%d) = %+v, %d, want %+v", number, got, e, want)
	}
}

func wantFrame(t *testing.T, s *Sender) string {
	t.Helper()
	l := s.Tick()
	if len(l) != 1 {
		t.Fatalf("P6: Tick() = %x, want one frame", l)
	}
	return l[0]
}

func wantNothing(t *testing.T, s *Sender) {
	t.Helper()
	if l := s.Tick(); len(l) != 0 {
		t.Fatalf("P6: Tick() = %x, want nothing", l)
	}
}

// bytesOf is some data of that length, of which no two blocks are alike.
func bytesOf(length int) string {
	data := make([]byte, length)
	next := numbers(uint64(length))
	for i := range data {
		data[i] = byte(next())
	}
	return string(data)
}

// laidOver is the sum of a row, block by block, each filled up to its end.
func laidOver(data string, block int, row uint32) string {
	filled := data + strings.Repeat("\x00", api.MaxBlocks*block-len(data))
	sum := make([]byte, block)
	for j := range api.MaxBlocks {
		if row>>j&1 == 1 {
			for i, b := range []byte(filled[j*block : (j+1)*block]) {
				sum[i] ^= b
			}
		}
	}
	return string(sum)
}

// told is what a frame tells, read apart from the program.
type told struct {
	number, length int
	row            uint32
	sum            string
}

func (w told) String() string {
	return fmt.Sprintf("object %d of %d bytes, row %b, sum %x", w.number, w.length, w.row, w.sum)
}

func read(t *testing.T, text string) told {
	t.Helper()
	if len(text) < 13 || len(text) < api.MinFrame || len(text) > api.MaxFrame {
		t.Fatalf("P4: a frame of %d bytes: %x", len(text), text)
	}
	body, check := []byte(text[:len(text)-4]), []byte(text[len(text)-4:])
	if body[0] != 1 || crc32.ChecksumIEEE(body) != binary.LittleEndian.Uint32(check) {
		t.Fatalf("P4: the frame %x is of another kind, or spoiled", text)
	}
	return told{
		number: int(binary.LittleEndian.Uint16(body[1:])),
		length: int(binary.LittleEndian.Uint16(body[3:])),
		row:    binary.LittleEndian.Uint32(body[5:]),
		sum:    string(body[9:]),
	}
}

func TestFramesTellOfTheirRows(t *testing.T) {
	const budget = 140
	for _, block := range []int{1, 2, 7, 31, 32} {
		for _, length := range []int{0, 1, block, block + 1, 5*block - 1, 31*block + 1, 32 * block} {
			for _, nonce := range []uint64{0, 77, math.MaxUint64} {
				data := bytesOf(length)
				blocks := max(1, int(math.Ceil(float64(length)/float64(block))))
				s := newSender(t, block, budget)
				wantSubmit(t, s, data, nonce, 1)
				for i := range budget {
					row, _ := Row(nonce, blocks, i)
					want := told{number: 1, length: length, row: row, sum: laidOver(data, block, row)}
					if got := read(t, wantFrame(t, s)); got != want {
						t.Fatalf("P4: frame %d of %d bytes, Block %d, nonce %d tells %v, want %v", i, length, block, nonce, got, want)
					}
				}
			}
		}
	}
}

func TestFramesOfKnownSums(t *testing.T) {
	s := newSender(t, 4, 20)
	wantSubmit(t, s, "hello", 2, 1)
	want := map[int]told{
		0: {number: 1, length: 5, row: 1, sum: "hell"},
		4: {number: 1, length: 5, row: 2, sum: "o\x00\x00\x00"},
		8: {number: 1, length: 5, row: 1, sum: "hell"},
	}
	both := 0
	for i := range 20 {
		got := read(t, wantFrame(t, s))
		if w, ok := want[i]; ok && got != w {
			t.Errorf("P4: frame %d of hello tells %v, want %v", i, got, w)
		}
		if got.row == 3 {
			both++
			if got.sum != "\x07ell" {
				t.Errorf("P4: frame %d of hello: the sum of both blocks is %q", i, got.sum)
			}
		}
	}
	if both == 0 {
		t.Error("P4: no frame of hello is of both blocks")
	}
}

func TestFramesOfEachObjectBeginAtItsOwnFirstRow(t *testing.T) {
	s := newSender(t, 3, 6)
	for n := 1; n <= 4; n++ {
		wantSubmit(t, s, bytesOf(8*n), uint64(n)<<40, n)
	}
	for n := 1; n <= 4; n++ {
		for i := range 6 {
			row, _ := Row(uint64(n)<<40, (8*n+2)/3, i)
			want := told{number: n, length: 8 * n, row: row, sum: laidOver(bytesOf(8*n), 3, row)}
			if got := read(t, wantFrame(t, s)); got != want {
				t.Errorf("P4: frame %d of object %d tells %v, want %v", i, n, got, want)
			}
		}
		wantNothing(t, s)
	}
}

var badConfigs = []api.Config{
	{Block: 0, Budget: 20}, {Block: 33, Budget: 20}, {Block: -1, Budget: 20}, {Block: math.MinInt, Budget: 20}, {Block: math.MaxInt, Budget: 20},
	{Block: 4, Budget: 0}, {Block: 4, Budget: 1001}, {Block: 4, Budget: -1}, {Block: 4, Budget: math.MinInt}, {Block: 4, Budget: math.MaxInt},
	{}, {Block: -1, Budget: -1}, {Block: 33, Budget: 1001}, {Block: 32, Budget: 1001}, {Block: 33, Budget: 1000}, {Block: 1, Budget: 0}, {Block: 0, Budget: 1},
}

var outermostConfigs = []api.Config{{Block: 1, Budget: 1}, {Block: 32, Budget: 1}, {Block: 1, Budget: 1000}, {Block: 32, Budget: 1000}}

func TestConfig(t *testing.T) {
	for _, c := range badConfigs {
		if s, e := NewSender(c); s != nil || e != api.ErrSize {
			t.Errorf("P5: NewSender(%+v) = %v, %d, want nil, ErrSize", c, s, e)
		}
	}
	for _, c := range outermostConfigs {
		s := newSender(t, c.Block, c.Budget)
		wantNothing(t, s)
	}
}

func TestExampleOfTheDocument(t *testing.T) {
	s := newSender(t, 4, 20)
	wantSubmit(t, s, "", 1, 1)
	wantSubmit(t, s, "hello", 2, 2)
	wantStatus(t, s, 1, api.Waiting, 0)
	wantFrame(t, s)
	wantStatus(t, s, 1, api.Sending, 1)
	wantStatus(t, s, 2, api.Waiting, 0)
}

func TestStatusOfNoObject(t *testing.T) {
	s := newSender(t, 4, 20)
	wantNone := func(numbers ...int) {
		t.Helper()
		for _, n := range numbers {
			if got, e := s.Status(n); got != (api.Status{}) || e != api.ErrNone {
				t.Errorf("P5: Status(%d) = %+v, %d, want nothing, ErrNone", n, got, e)
			}
		}
	}
	wantNone(1, 0, -1, math.MinInt, math.MaxInt)
	wantSubmit(t, s, "a", 1, 1)
	wantSubmit(t, s, "b", 1, 2)
	wantNone(3, 0, -1, -2, 500, 501, math.MinInt, math.MaxInt)
	wantRefused(t, s, 129, api.ErrLong)
	wantNone(3)
}

func TestLongestObject(t *testing.T) {
	for _, block := range []int{1, 4, 31, 32} {
		s := newSender(t, block, 5)
		for _, length := range []int{32*block + 1, 33 * block, 33*block + 1, 1 << 20} {
			wantRefused(t, s, length, api.ErrLong)
		}
		wantNothing(t, s)
		wantSubmit(t, s, bytesOf(32*block), 1, 1)
		wantRefused(t, s, 32*block+1, api.ErrLong)
		wantStatus(t, s, 1, api.Waiting, 0)
		wantFrame(t, s)
		wantStatus(t, s, 1, api.Sending, 1)
	}
}

func TestAtMostEightWait(t *testing.T) {
	s := newSender(t, 1, 2)
	for n := 1; n <= 8; n++ {
		wantSubmit(t, s, "a", 1, n)
	}
	wantRefused(t, s, 1, api.ErrFull)
	wantRefused(t, s, 0, api.ErrFull)
	wantRefused(t, s, 33, api.ErrLong)
	wantFrame(t, s) // object 1 waits no more
	wantSubmit(t, s, "a", 1, 9)
	wantRefused(t, s, 1, api.ErrFull)
	wantFrame(t, s)
	wantRefused(t, s, 1, api.ErrFull)
	wantNothing(t, s) // object 1 is Failed, but none of those that wait has its turn yet
	wantStatus(t, s, 1, api.Failed, 2)
	wantRefused(t, s, 1, api.ErrFull)
	wantFrame(t, s)
	wantSubmit(t, s, "a", 1, 10)
	wantRefused(t, s, 1, api.ErrFull)
	wantStatus(t, s, 2, api.Sending, 1)
	for n := 3; n <= 10; n++ {
		wantStatus(t, s, n, api.Waiting, 0)
	}
}

func TestFiveHundredObjects(t *testing.T) {
	s := newSender(t, 1, 1)
	for n := 1; n <= 492; n++ {
		wantSubmit(t, s, "a", uint64(n), n)
		if got := read(t, wantFrame(t, s)).number; got != n {
			t.Fatalf("P4: a frame of object %d, want one of %d", got, n)
		}
		wantStatus(t, s, n, api.Sending, 1)
		wantNothing(t, s)
		wantStatus(t, s, n, api.Failed, 1)
	}
	for n := 493; n <= 499; n++ {
		wantSubmit(t, s, "a", 1, n)
	}
	wantSubmit(t, s, "a", 1, 500)
	wantRefused(t, s, 1, api.ErrEnd) // and 8 wait
	wantRefused(t, s, 33, api.ErrLong)
	for n := 493; n <= 500; n++ {
		if got := read(t, wantFrame(t, s)).number; got != n {
			t.Fatalf("P4: a frame of object %d, want one of %d", got, n)
		}
		wantRefused(t, s, 1, api.ErrEnd)
		wantRefused(t, s, 33, api.ErrLong)
		wantNothing(t, s)
	}
	wantNothing(t, s)
	wantRefused(t, s, 0, api.ErrEnd)
	wantStatus(t, s, 1, api.Failed, 1)
	wantStatus(t, s, 500, api.Failed, 1)
	if got, e := s.Status(501); got != (api.Status{}) || e != api.ErrNone {
		t.Errorf("P5: Status(501) = %+v, %d, want nothing, ErrNone", got, e)
	}
}

func TestNothingIsSentWithoutObjects(t *testing.T) {
	s := newSender(t, 4, 3)
	wantNothing(t, s)
	wantNothing(t, s)
	wantSubmit(t, s, "a", 1, 1)
	wantStatus(t, s, 1, api.Waiting, 0) // the ticks ahead of it do not count
	wantFrame(t, s)
	wantStatus(t, s, 1, api.Sending, 1)
}

func TestBudget(t *testing.T) {
	for _, budget := range []int{1, 2, 999, 1000} {
		s := newSender(t, 4, budget)
		wantSubmit(t, s, "hello", 1, 1)
		wantSubmit(t, s, "rain", 1, 2)
		for i := range budget {
			wantFrame(t, s)
			wantStatus(t, s, 1, api.Sending, i+1)
			wantStatus(t, s, 2, api.Waiting, 0)
		}
		wantNothing(t, s)
		wantStatus(t, s, 1, api.Failed, budget)
		wantStatus(t, s, 2, api.Waiting, 0)
		if got := read(t, wantFrame(t, s)).number; got != 2 {
			t.Errorf("P6: a frame of object %d, want one of 2", got)
		}
		wantStatus(t, s, 1, api.Failed, budget)
		wantStatus(t, s, 2, api.Sending, 1)
		for range budget - 1 {
			wantFrame(t, s)
		}
		wantNothing(t, s)
		wantNothing(t, s)
		wantStatus(t, s, 2, api.Failed, budget)
		wantSubmit(t, s, "more", 1, 3)
		wantFrame(t, s)
		wantStatus(t, s, 3, api.Sending, 1)
	}
}

func TestOfAnEndedObjectTheStatusAloneIsKept(t *testing.T) {
	s := newSender(t, 4, 1)
	wantSubmit(t, s, "hello", 9, 1)
	wantSubmit(t, s, "hello", 9, 2)
	wantFrame(t, s)
	wantNothing(t, s)
	wantFrame(t, s)
	s.Handle(doneOf(2, 4))
	for i, state := range []api.State{api.Failed, api.Done} {
		if got, want := s.objects[i], (object{status: api.Status{State: state, Sent: 1}}); got != want {
			t.Errorf("of an object that has ended %+v is kept, want %+v", got, want)
		}
	}
}

// answers is all that a sender tells in a run with several objects; disturb is called between its calls, with what Tick answered last.
func answers(t *testing.T, disturb func(s *Sender, last []string)) []any {
	t.Helper()
	s := newSender(t, 5, 7)
	var all []any
	for i := range 60 {
		if i%6 == 0 {
			n, e := s.Submit(bytesOf(i*2), uint64(i))
			all = append(all, n, e)
		}
		l := s.Tick()
		all = append(all, strings.Join(l, "|"))
		disturb(s, l)
		status, e := s.Status(i / 6)
		all = append(all, status, e)
	}
	return all
}

func leaveAlone(*Sender, []string) {}

func TestListsAreNewMemory(t *testing.T) {
	scribble := scribbler(t)
	scribbled := answers(t, func(_ *Sender, last []string) { scribble(last) })
	if !reflect.DeepEqual(scribbled, answers(t, leaveAlone)) {
		t.Error("P2: what was written into the lists of Tick changed later answers")
	}
}

func TestRefusedCallsChangeNothing(t *testing.T) {
	refused := answers(t, func(s *Sender, _ []string) {
		s.Submit(strings.Repeat("x", 161), 1)
		s.Status(-1)
		s.Status(501)
		NewSender(api.Config{Block: 5, Budget: 0})
	})
	if !reflect.DeepEqual(refused, answers(t, leaveAlone)) {
		t.Error("P1: calls that were refused changed later answers")
	}
}

func TestSendersDoNotDisturbOneAnother(t *testing.T) {
	other := newSender(t, 9, 3)
	beside := answers(t, func(_ *Sender, _ []string) {
		other.Submit("quite other bytes", 5)
		other.Tick()
	})
	if !reflect.DeepEqual(beside, answers(t, leaveAlone)) {
		t.Error("P2: another sender changed the answers")
	}
}
