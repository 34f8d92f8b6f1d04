package drizzle

import (
	"math/rand"
	"slices"
	"testing"

	"drizzle/api"
)

func TestExamplesOfANetwork(t *testing.T) {
	s, r := newSender(t, 4, 20), newReceiver(t, 4, 20)
	wantSubmit(t, s, "", 1, 1)
	wantSubmit(t, s, "hello", 2, 2)
	frame := wantFrame(t, s)
	back := wantDone(t, r, frame, 1)
	wantRank(t, r, 1, 1, 1)
	wantTake(t, r, "", 1)
	wantNoneToTake(t, r)
	wantDone(t, r, frame, 1)
	wantStatus(t, s, 1, api.Sending, 1)
	s.Handle(back)
	wantStatus(t, s, 1, api.Done, 1)
	if got := read(t, wantFrame(t, s)).number; got != 2 {
		t.Errorf("P7: a frame of object %d, want one of 2", got)
	}
}

func TestAnswerThatComesTooLate(t *testing.T) {
	s, r := newSender(t, 4, 2), newReceiver(t, 4, 2)
	wantSubmit(t, s, "rain", 1, 1)
	back := wantDone(t, r, wantFrame(t, s), 1)
	wantDone(t, r, wantFrame(t, s), 1)
	wantNothing(t, s)
	wantStatus(t, s, 1, api.Failed, 2)
	s.Handle(back)
	wantStatus(t, s, 1, api.Failed, 2)
	wantTake(t, r, "rain", 1) // what is Failed may have been delivered
}

// model is what a receiver must tell, worked out from all that has come.
type model struct {
	blocks    int
	last      int
	rows      []uint32
	delivered []int
}

// comes takes a frame in, and tells whether it is to be answered.
func (m *model) comes(frame told, block int) bool {
	if slices.Contains(m.delivered, frame.number) {
		return true
	}
	if frame.number < m.last {
		return false
	}
	if frame.number > m.last {
		m.last, m.rows, m.blocks = frame.number, nil, max(1, (frame.length+block-1)/block)
	}
	m.rows = append(m.rows, frame.row)
	if rankOf(m.rows) < m.blocks {
		return false
	}
	m.delivered = append(m.delivered, frame.number)
	return true
}

func (m *model) rank() api.Rank {
	return api.Rank{Number: m.last, Rank: rankOf(m.rows), Blocks: m.blocks}
}

// world is a sender, a receiver, and the network that lies between.
type world struct {
	t         *testing.T
	draw      *rand.Rand
	block     int
	budget    int
	s         *Sender
	r         *Receiver
	model     model
	submitted []string
	sent      map[int]int // frames, by the object's number
	taken     []int
	down, up  []string // all that was ever sent
}

func newWorld(t *testing.T, seed int64) *world {
	draw := rand.New(rand.NewSource(seed))
	w := &world{t: t, draw: draw, block: 1 + draw.Intn(8), budget: 1 + draw.Intn(80), sent: map[int]int{}}
	w.s, w.r = newSender(t, w.block, w.budget), newReceiver(t, w.block, w.budget)
	return w
}

// submit hands in an object, of which some bytes are 0.
func (w *world) submit() {
	data := make([]byte, w.draw.Intn(10*w.block+1))
	for i := range data {
		data[i] = byte(w.draw.Intn(4))
	}
	if _, e := w.s.Submit(string(data), w.draw.Uint64()); e == api.OK {
		w.submitted = append(w.submitted, string(data))
	}
}

func (w *world) tick() {
	w.t.Helper()
	for _, frame := range w.s.Tick() {
		number := read(w.t, frame).number
		w.sent[number]++
		status, _ := w.s.Status(number)
		if w.sent[number] > w.budget || status.State != api.Sending || status.Sent != w.sent[number] {
			w.t.Fatalf("P10: frame %d is sent of object %d, with a budget of %d: %+v", w.sent[number], number, w.budget, status)
		}
		w.down = append(w.down, frame)
	}
}

// one is any of the texts, most often a late one.
func (w *world) one(texts []string) string {
	return texts[len(texts)-1-w.draw.Intn(min(len(texts), 1+w.draw.Intn(60)))]
}

func (w *world) ruin(text string) string {
	return spoil(text, w.draw.Intn(8*len(text)), w.draw.Uint32()|1)
}

func (w *world) arriveDown() {
	w.t.Helper()
	frame := w.one(w.down)
	before := w.r.Rank()
	if w.draw.Intn(4) == 0 {
		wantNoAnswer(w.t, w.r, w.ruin(frame))
		wantRank(w.t, w.r, before.Number, before.Rank, before.Blocks)
	}
	what := read(w.t, frame)
	if w.model.comes(what, w.block) {
		w.up = append(w.up, wantDone(w.t, w.r, frame, what.number))
	} else {
		wantNoAnswer(w.t, w.r, frame)
	}
	if got, want := w.r.Rank(), w.model.rank(); got != want {
		w.t.Fatalf("P8: Rank() = %+v, want %+v", got, want)
	}
}

func (w *world) arriveUp() {
	w.s.Handle(w.ruin(w.one(w.up)))
	w.s.Handle(w.one(w.up))
}

func (w *world) take() {
	w.t.Helper()
	if len(w.taken) == len(w.model.delivered) {
		wantNoneToTake(w.t, w.r)
		return
	}
	number := w.model.delivered[len(w.taken)]
	wantTake(w.t, w.r, w.submitted[number-1], number)
	w.taken = append(w.taken, number)
}

// wantDoneWereDelivered looks at all objects, and tells how many are Done.
func (w *world) wantDoneWereDelivered() int {
	w.t.Helper()
	done := 0
	for n := 1; n <= len(w.submitted); n++ {
		status, _ := w.s.Status(n)
		if status.State != api.Done {
			continue
		}
		done++
		if !slices.Contains(w.model.delivered, n) {
			w.t.Fatalf("P10: object %d is Done and was not delivered", n)
		}
	}
	return done
}

func TestWhateverTheNetworkDoes(t *testing.T) {
	done, delivered, submitted := 0, 0, 0
	for seed := range int64(120) {
		w := newWorld(t, seed)
		loss := 1 + w.draw.Intn(6)
		for range 600 {
			if w.draw.Intn(20) == 0 {
				w.submit()
			}
			w.tick()
			for len(w.down) > 0 && w.draw.Intn(loss) == 0 && w.draw.Intn(3) > 0 {
				w.arriveDown()
			}
			if len(w.up) > 0 && w.draw.Intn(loss) == 0 {
				w.arriveUp()
			}
			if w.draw.Intn(5) == 0 {
				w.take()
			}
			w.wantDoneWereDelivered()
		}
		for range len(w.submitted) {
			w.take()
		}
		wantNoneToTake(t, w.r)
		if !slices.IsSorted(w.taken) || len(slices.Compact(slices.Clone(w.taken))) != len(w.taken) {
			t.Fatalf("P10: the objects were delivered in the order %d", w.taken)
		}
		done, delivered, submitted = done+w.wantDoneWereDelivered(), delivered+len(w.taken), submitted+len(w.submitted)
	}
	if done == 0 || done == delivered || delivered == submitted {
		t.Errorf("of %d objects %d were delivered and %d are Done: the networks are too kind or too harsh to show anything", submitted, delivered, done)
	}
}

func TestWithoutLoss(t *testing.T) {
	for _, block := range []int{1, 5, 32} {
		for blocks := 1; blocks <= api.MaxBlocks; blocks++ {
			for _, nonce := range []uint64{0, 1, 77, 1 << 63} {
				s, r := newSender(t, block, 4*blocks), newReceiver(t, block, 4*blocks)
				data := bytesOf(blocks * block)
				wantSubmit(t, s, data, nonce, 1)
				for range 4 * blocks {
					for _, frame := range s.Tick() {
						for _, back := range r.Handle(frame) {
							s.Handle(back)
						}
					}
				}
				if got, _ := s.Status(1); got.State != api.Done {
					t.Fatalf("P11: an object of %d blocks is %+v behind %d frames", blocks, got, 4*blocks)
				}
				wantTake(t, r, data, 1)
			}
		}
	}
}

// fair lets one of any f that follow one another through: each f-th.
func fair(f int) func() bool {
	lost := 0
	return func() bool {
		lost = (lost + 1) % f
		return lost == 0
	}
}

func TestFairLoss(t *testing.T) {
	for _, c := range []struct{ blocks, f int }{{1, 1}, {1, 2}, {1, 20}, {2, 3}, {3, 7}, {8, 5}, {12, 6}, {31, 4}, {32, 1}, {32, 2}, {32, 7}} {
		budget := 4*c.blocks*c.f + c.f*c.f
		for _, nonce := range []uint64{0, 5, 1 << 40} {
			s, r := newSender(t, 2, budget), newReceiver(t, 2, budget)
			data := bytesOf(2*c.blocks - 1)
			wantSubmit(t, s, data, nonce, 1)
			wantDoneOverFairLoss(t, s, r, c.blocks, c.f, budget)
			wantTake(t, r, data, 1)
		}
	}
}

// wantDoneOverFairLoss sends one object. Of the frames of each single block, of all frames and of the answers no more arrive than the promise needs.
func wantDoneOverFairLoss(t *testing.T, s *Sender, r *Receiver, blocks, f, budget int) {
	t.Helper()
	answer := fair(f)
	var single []func() bool
	for range blocks {
		single = append(single, fair(f))
	}
	lost := 0
	for id := range budget {
		lost++
		for _, frame := range s.Tick() {
			arrives := lost == f
			if id%4 == 0 {
				arrives = single[id/4%blocks]() || arrives
			}
			if !arrives {
				continue
			}
			lost = 0
			for _, back := range r.Handle(frame) {
				if answer() {
					s.Handle(back)
				}
			}
		}
	}
	if got, _ := s.Status(1); got.State != api.Done {
		t.Fatalf("P11: an object of %d blocks is %+v behind %d frames, of which one of %d arrives", blocks, got, budget, f)
	}
}
