package drizzle

import (
	"fmt"
	"math/rand"
	"reflect"
	"slices"
	"strings"
	"sync"
	"sync/atomic"
	"testing"
	"time"

	"drizzle/api"
)

// wantBehind lets a call come while another one is under way, which holds the lock and then makes its change. The call must wait, and answer as one that comes behind it.
func wantBehind(t *testing.T, name string, lock *sync.Mutex, change func(), call func() any, want any) {
	t.Helper()
	answer := make(chan any, 1)
	lock.Lock()
	go func() { answer <- call() }()
	select {
	case got := <-answer:
		t.Errorf("%s answers %#v in the midst of another call", name, got)
		answer <- got
	case <-time.After(20 * time.Millisecond): // a call that did not wait would have answered long ago
	}
	change()
	lock.Unlock()
	select {
	case got := <-answer:
		if !reflect.DeepEqual(got, want) {
			t.Errorf("%s = %#v behind another call, want %#v", name, got, want)
		}
	case <-time.After(time.Minute):
		t.Fatalf("%s does not end", name)
	}
	if !lock.TryLock() {
		t.Fatalf("%s has ended, and the lock is still held", name)
	}
	lock.Unlock()
}

func TestCallsOfASenderWaitForTheOneUnderWay(t *testing.T) {
	ahead := func(calls ...func(*Sender)) *Sender {
		s := newSender(t, 4, 20)
		for _, call := range calls {
			call(s)
		}
		return s
	}
	submit := func(s *Sender) { s.Submit("rain", 1) }
	tick := func(s *Sender) { s.Tick() }
	eight := slices.Repeat([]func(*Sender){submit}, 8)
	for _, c := range []struct {
		name          string
		before, after *Sender // the call that is under way
		call          func(*Sender) any
		want          any
	}{
		{"Submit", ahead(), ahead(submit), func(s *Sender) any { return submitAnswer(s, "rain", 1) }, []any{2, api.OK}},
		{"Submit", ahead(), ahead(eight...), func(s *Sender) any { return submitAnswer(s, "rain", 1) }, []any{0, api.ErrFull}},
		{"Tick", ahead(), ahead(submit), func(s *Sender) any { return len(s.Tick()) }, 1},
		{"Tick", ahead(submit, tick), ahead(submit, tick, func(s *Sender) { s.Handle(doneOf(1, 4)) }), func(s *Sender) any { return len(s.Tick()) }, 0},
		{"Handle", ahead(submit), ahead(submit, tick), func(s *Sender) any { s.Handle(doneOf(1, 4)); return nil }, nil},
		{"Status", ahead(), ahead(submit), func(s *Sender) any { return statusAnswer(s, 1) }, []any{api.Status{State: api.Waiting}, api.OK}},
		{"Status", ahead(submit), ahead(submit, tick), func(s *Sender) any { return statusAnswer(s, 1) }, []any{api.Status{State: api.Sending, Sent: 1}, api.OK}},
	} {
		s := c.before
		wantBehind(t, c.name, &s.lock, func() { s.objects, s.ended = c.after.objects, c.after.ended }, func() any { return c.call(s) }, c.want)
		if c.name == "Handle" {
			wantStatus(t, s, 1, api.Done, 1)
		}
	}
}

func TestCallsOfAReceiverWaitForTheOneUnderWay(t *testing.T) {
	ahead := func(frames ...string) *Receiver {
		r := newReceiver(t, 4, 20)
		for _, frame := range frames {
			r.Handle(frame)
		}
		return r
	}
	first, second, later := frameOf(1, "hello", 4, 1), frameOf(1, "hello", 4, 2), frameOf(2, "hello", 4, 1)
	for _, c := range []struct {
		name          string
		before, after *Receiver
		call          func(*Receiver) any
		want          any
	}{
		{"Handle", ahead(), ahead(first), func(r *Receiver) any { return r.Handle(second) }, []string{doneOf(1, 4)}},
		{"Handle", ahead(first), ahead(first, later), func(r *Receiver) any { return len(r.Handle(second)) }, 0},
		{"Take", ahead(first), ahead(first, second), func(r *Receiver) any { return takeAnswer(r) }, []any{"hello", 1, api.OK}},
		{"Rank", ahead(), ahead(first), func(r *Receiver) any { return r.Rank() }, api.Rank{Number: 1, Rank: 1, Blocks: 2}},
	} {
		r, after := c.before, c.after
		change := func() {
			r.last, r.length, r.sums, r.delivered, r.ready = after.last, after.length, after.sums, after.delivered, after.ready
		}
		wantBehind(t, c.name, &r.lock, change, func() any { return c.call(r) }, c.want)
	}
}

func submitAnswer(s *Sender, data string, nonce uint64) []any {
	n, e := s.Submit(data, nonce)
	return []any{n, e}
}

func statusAnswer(s *Sender, number int) []any {
	status, e := s.Status(number)
	return []any{status, e}
}

func takeAnswer(r *Receiver) []any {
	data, n, e := r.Take()
	return []any{data, n, e}
}

// step is a call on a sender or a receiver, with what it answered, and when it began and ended.
type step[Side any] struct {
	name         string
	call         func(Side) any
	answer       any
	began, ended int64
}

func (s step[Side]) String() string {
	return fmt.Sprintf("%s = %#v (%d to %d)", s.name, s.answer, s.began, s.ended)
}

// runTogether lets each line of steps be called by a goroutine of its own, all at one time, and behind them the last step.
func runTogether[Side any](side Side, lines [][]step[Side], last step[Side]) [][]step[Side] {
	var clock atomic.Int64
	run := func(s *step[Side]) {
		s.began = clock.Add(1)
		s.answer = s.call(side)
		s.ended = clock.Add(1)
	}
	var all sync.WaitGroup
	begin := make(chan struct{})
	for _, line := range lines {
		all.Go(func() {
			<-begin
			for i := range line {
				run(&line[i])
			}
		})
	}
	close(begin)
	all.Wait()
	run(&last)
	return append(lines, []step[Side]{last})
}

// oneBehindTheOther is whether the steps have, in some order that keeps to when they began and ended, the answers that they have one behind the other.
func oneBehindTheOther[Side any](fresh func() Side, ahead []step[Side], lines [][]step[Side]) bool {
	all := true
	for i, line := range lines {
		if len(line) == 0 {
			continue
		}
		all = false
		order := append(slices.Clone(ahead), line[0])
		if !mayBeNext(line[0], lines) || !answersSo(fresh(), order) {
			continue
		}
		rest := slices.Clone(lines)
		rest[i] = line[1:]
		if oneBehindTheOther(fresh, order, rest) {
			return true
		}
	}
	return all
}

// mayBeNext is whether none of the steps that are left had ended when this one began.
func mayBeNext[Side any](next step[Side], lines [][]step[Side]) bool {
	for _, line := range lines {
		if len(line) > 0 && line[0].ended < next.began {
			return false
		}
	}
	return true
}

// answersSo is whether the last one of the steps answers so behind the others.
func answersSo[Side any](side Side, steps []step[Side]) bool {
	var answer any
	for _, s := range steps {
		answer = s.call(side)
	}
	return reflect.DeepEqual(answer, steps[len(steps)-1].answer)
}

// wantOneBehindTheOther lets several goroutines make calls that are drawn, over and over.
func wantOneBehindTheOther[Side any](t *testing.T, fresh func() Side, drawn func(*rand.Rand) step[Side], last step[Side]) {
	t.Helper()
	draw := rand.New(rand.NewSource(6))
	for range 1500 {
		lines := make([][]step[Side], 4)
		for i := range lines {
			for range 3 {
				lines[i] = append(lines[i], drawn(draw))
			}
		}
		lines = runTogether(fresh(), lines, last)
		if !oneBehindTheOther(fresh, nil, lines) {
			t.Fatalf("in no order one behind the other do the calls answer so: %v", lines)
		}
	}
}

func TestCallsOfASenderAreAsIfOneBehindTheOther(t *testing.T) {
	fresh := func() *Sender {
		s := newSender(t, 1, 2)
		for n := 1; n <= 6; n++ {
			wantSubmit(t, s, strings.Repeat("x", n), uint64(n), n)
		}
		return s
	}
	drawn := func(draw *rand.Rand) step[*Sender] {
		number := 1 + draw.Intn(9)
		switch draw.Intn(7) {
		case 0, 1:
			data := strings.Repeat("y", 4*number)
			return step[*Sender]{name: fmt.Sprintf("Submit(%s)", data), call: func(s *Sender) any { return submitAnswer(s, data, 7) }}
		case 2, 3, 4:
			return step[*Sender]{name: "Tick()", call: func(s *Sender) any { return s.Tick() }}
		case 5:
			number = 1 + draw.Intn(3)
			return step[*Sender]{name: fmt.Sprintf("Handle(done %d)", number), call: func(s *Sender) any { s.Handle(doneOf(number, 1)); return nil }}
		default:
			return step[*Sender]{name: fmt.Sprintf("Status(%d)", number), call: func(s *Sender) any { return statusAnswer(s, number) }}
		}
	}
	wantOneBehindTheOther(t, fresh, drawn, step[*Sender]{name: "all Status", call: func(s *Sender) any {
		var all []any
		for number := range 20 {
			all = append(all, statusAnswer(s, number)...)
		}
		return append(all, s.Tick())
	}})
}

func TestCallsOfAReceiverAreAsIfOneBehindTheOther(t *testing.T) {
	fresh := func() *Receiver { return newReceiver(t, 2, 2) }
	drawn := func(draw *rand.Rand) step[*Receiver] {
		switch draw.Intn(5) {
		case 0:
			return step[*Receiver]{name: "Rank()", call: func(r *Receiver) any { return r.Rank() }}
		case 1:
			return step[*Receiver]{name: "Take()", call: func(r *Receiver) any { return takeAnswer(r) }}
		default:
			number, row := 1+draw.Intn(3), 1+draw.Uint32()%3
			frame := frameOf(number, bytesOf(3+number%2), 2, row)
			return step[*Receiver]{name: fmt.Sprintf("Handle(row %b of %d)", row, number), call: func(r *Receiver) any { return r.Handle(frame) }}
		}
	}
	wantOneBehindTheOther(t, fresh, drawn, step[*Receiver]{name: "Rank() and all Take()", call: func(r *Receiver) any {
		all := []any{r.Rank()}
		for range 20 {
			all = append(all, takeAnswer(r)...)
		}
		return all
	}})
}

func TestStatusBesideTicks(t *testing.T) {
	s := newSender(t, 32, 1)
	var all sync.WaitGroup
	var ended atomic.Bool
	all.Go(func() {
		for range api.MaxNumber {
			s.Submit("drizzle", 1)
			s.Tick()
			s.Tick()
		}
		ended.Store(true)
	})
	for number := 1; !ended.Load() && number <= api.MaxNumber; {
		got, e := s.Status(number)
		if (got.State == api.Waiting || e != api.OK) != (got.Sent == 0) {
			t.Errorf("P5: Status(%d) = %+v, %d in the midst of a tick", number, got, e)
			break
		}
		if got.State == api.Failed {
			number++
		}
	}
	all.Wait()
	wantStatus(t, s, api.MaxNumber, api.Failed, 1)
}

func TestRankBesideFrames(t *testing.T) {
	r := newReceiver(t, 32, 20)
	var frames []string
	for n := 1; n <= api.MaxNumber; n++ {
		frames = append(frames, frameOf(n, bytesOf(32*(2+n%30)), 32, 1))
	}
	var all sync.WaitGroup
	var ended atomic.Bool
	all.Go(func() {
		for _, frame := range frames {
			r.Handle(frame)
		}
		ended.Store(true)
	})
	for !ended.Load() {
		if got := r.Rank(); got.Number > 0 && (got.Rank != 1 || got.Blocks != 2+got.Number%30) {
			t.Errorf("P8: Rank() = %+v in the midst of a frame", got)
			break
		}
	}
	all.Wait()
	wantRank(t, r, api.MaxNumber, 1, 2+api.MaxNumber%30)
}

func TestNetworksBesideOneAnother(t *testing.T) {
	run := func(block int) []any {
		s, _ := NewSender(api.Config{Block: block, Budget: 200})
		r, _ := NewReceiver(api.Config{Block: block, Budget: 200})
		var all []any
		for i := range 800 {
			all = append(all, submitAnswer(s, strings.Repeat("rain", block), uint64(block))...)
			for _, frame := range s.Tick() {
				for _, back := range r.Handle(frame) {
					if i%3 == 0 {
						s.Handle(back)
					}
				}
				all = append(all, frame)
			}
			all = append(all, r.Rank())
			all = append(all, takeAnswer(r)...)
		}
		return all
	}
	var got [8][]any
	var all sync.WaitGroup
	for i := range got {
		all.Go(func() { got[i] = run(1 + i) })
	}
	all.Wait()
	for i := range got {
		if !reflect.DeepEqual(got[i], run(1+i)) {
			t.Errorf("P2: a network of blocks of %d bytes answers otherwise beside others", 1+i)
		}
	}
}

func TestSenderOfSeveralGoroutines(t *testing.T) {
	const budget, workers = 5, 8
	s := newSender(t, 4, budget)
	var frames [workers][]string
	var all sync.WaitGroup
	for w := range workers {
		all.Go(func() {
			for i := range 600 {
				s.Submit("hello", uint64(i))
				frames[w] = append(frames[w], s.Tick()...)
				s.Status(i)
			}
		})
	}
	all.Wait()
	for range api.MaxWait * (budget + 1) * 2 { // whatever is left
		frames[0] = append(frames[0], s.Tick()...)
	}
	sent := map[int]int{}
	for _, l := range frames {
		for _, text := range l {
			sent[read(t, text).number]++
		}
	}
	for n := 1; n <= api.MaxNumber; n++ {
		wantStatus(t, s, n, api.Failed, budget)
		if sent[n] != budget {
			t.Errorf("P6: of object %d %d frames were sent, want %d", n, sent[n], budget)
		}
	}
}

func TestReceiverOfSeveralGoroutines(t *testing.T) {
	const workers, objects = 8, 60
	r := newReceiver(t, 3, 20)
	var taken [workers][]parcel
	for n := 1; n <= objects; n++ {
		data := bytesOf(32*3 - n%3)
		var all sync.WaitGroup
		for w := range workers {
			all.Go(func() {
				for j := range 32 {
					r.Handle(frameOf(n, data, 3, 1<<((j+4*w)%32)))
					r.Rank()
					if data, n, e := r.Take(); e == api.OK {
						taken[w] = append(taken[w], parcel{data: data, number: n})
					}
				}
			})
		}
		all.Wait()
		wantRank(t, r, n, 32, 32)
	}
	count := map[int]int{}
	for _, l := range taken {
		for _, p := range l {
			count[p.number]++
			if p.data != bytesOf(32*3-p.number%3) {
				t.Errorf("P9: object %d came out as %x", p.number, p.data)
			}
		}
	}
	for n := 1; n <= objects; n++ {
		if count[n] != 1 {
			t.Errorf("P9: object %d was taken %d times", n, count[n])
		}
	}
	wantNoneToTake(t, r)
}

func TestNetworkOfSeveralGoroutines(t *testing.T) {
	const workers, objects = 6, 90
	s, r := newSender(t, 4, 200), newReceiver(t, 4, 200)
	var taken [workers][]parcel
	var all sync.WaitGroup
	for w := range workers {
		all.Go(func() {
			for range 4000 {
				s.Submit(strings.Repeat("drizzle", 3), uint64(w))
				for _, frame := range s.Tick() {
					for _, back := range r.Handle(frame) {
						s.Handle(back)
					}
				}
				r.Rank()
				if data, n, e := r.Take(); e == api.OK {
					taken[w] = append(taken[w], parcel{data: data, number: n})
				}
			}
		})
	}
	all.Wait()
	count := map[int]int{}
	for _, l := range taken {
		for _, p := range l {
			count[p.number]++
			if p.data != strings.Repeat("drizzle", 3) {
				t.Fatalf("P10: object %d came out as %x", p.number, p.data)
			}
		}
	}
	for n := 1; n <= objects; n++ {
		status, _ := s.Status(n)
		if count[n] > 1 || status.State == api.Done && count[n] != 1 {
			t.Errorf("P10: object %d, %+v, was taken %d times", n, status, count[n])
		}
		if status.State != api.Done && status.State != api.Failed {
			t.Errorf("P6: object %d is %+v at the end", n, status)
		}
	}
}
