package drizzle

import (
	"strings"
	"sync"

	"drizzle/api"
	"drizzle/wire"
)

// Sender sends objects, in the order in which they were submitted. Several goroutines may call it at one time.
type Sender struct {
	lock    sync.Mutex // each call holds it from its start to its end, so that it is as if the calls came one behind the other
	config  api.Config
	objects []object // object n stands at n-1
	ended   int      // so many objects are Done or Failed: always the first ones, as each has its turn behind the one ahead
}

// object is one that was submitted. Of one that is Done or Failed the status alone is kept.
type object struct {
	data   string
	nonce  uint64
	status api.Status
}

// NewSender makes a sender (P5).
func NewSender(c api.Config) (*Sender, api.Errno) {
	if !validConfig(c) {
		return nil, api.ErrSize
	}
	return &Sender{config: c}, api.OK
}

func validConfig(c api.Config) bool {
	return c.Block >= 1 && c.Block <= api.MaxBlock && c.Budget >= 1 && c.Budget <= api.MaxBudget
}

// Submit takes an object in (P5).
func (s *Sender) Submit(data string, nonce uint64) (int, api.Errno) {
	s.lock.Lock()
	defer s.lock.Unlock()
	switch {
	case len(data) > api.MaxBlocks*s.config.Block:
		return 0, api.ErrLong
	case len(s.objects) == api.MaxNumber:
		return 0, api.ErrEnd
	case s.waiting() == api.MaxWait:
		return 0, api.ErrFull
	}
	s.objects = append(s.objects, object{
		data:   strings.Clone(data), // the caller's text may be a small piece of a great one
		nonce:  nonce,
		status: api.Status{State: api.Waiting},
	})
	return len(s.objects), api.OK
}

// waiting is how many objects are Waiting.
func (s *Sender) waiting() int {
	count := 0
	for _, o := range s.objects[s.ended:] {
		if o.status.State == api.Waiting {
			count++
		}
	}
	return count
}

// Tick lets a tick go by (P6).
func (s *Sender) Tick() []string {
	s.lock.Lock()
	defer s.lock.Unlock()
	if s.ended == len(s.objects) {
		return nil
	}
	o := &s.objects[s.ended]
	o.status.State = api.Sending
	if o.status.Sent == s.config.Budget {
		s.end(api.Failed)
		return nil
	}
	text := s.nextFrame(o)
	o.status.Sent++
	return []string{text}
}

// end lets the object whose turn it is be Done or Failed.
func (s *Sender) end(state api.State) {
	o := &s.objects[s.ended]
	*o = object{status: api.Status{State: state, Sent: o.status.Sent}}
	s.ended++
}

// nextFrame is the frame of the object that follows on those that were sent (P4).
func (s *Sender) nextFrame(o *object) string {
	// There is such a row: Submit took no object of more blocks, and the budget is below MaxID.
	row, _ := Row(o.nonce, blockCount(len(o.data), s.config.Block), o.status.Sent)
	return wire.Sum{
		Number: s.ended + 1,
		Length: len(o.data),
		Row:    row,
		Bytes:  sumOf(o.data, s.config.Block, row),
	}.Text()
}

// blockCount is how many blocks an object of so many bytes has.
func blockCount(length int, block int) int {
	return max(1, (length+block-1)/block)
}

// sumOf is the sum of the row. The bytes 0 that fill up the last block would not change it.
func sumOf(data string, block int, row uint32) []byte {
	sum := make([]byte, block)
	for i := range len(data) {
		if row>>(i/block)&1 == 1 {
			sum[i%block] ^= data[i]
		}
	}
	return sum
}

// Handle takes a frame in (P7).
func (s *Sender) Handle(frame string) {
	s.lock.Lock()
	defer s.lock.Unlock()
	if s.sending() && frame == doneText(s.ended+1, s.config.Block) {
		s.end(api.Done)
	}
}

// sending is whether the object whose turn it is has begun to be sent.
func (s *Sender) sending() bool {
	return s.ended < len(s.objects) && s.objects[s.ended].status.State == api.Sending
}

// doneText is the one frame by which all receivers of a network say that an object is done: the sender need not read what comes, but holds it against this.
func doneText(number int, block int) string {
	return wire.Done{Number: number, Block: block}.Text()
}

// Status tells of an object (P5).
func (s *Sender) Status(number int) (api.Status, api.Errno) {
	s.lock.Lock()
	defer s.lock.Unlock()
	if number < 1 || number > len(s.objects) {
		return api.Status{}, api.ErrNone
	}
	return s.objects[number-1].status, api.OK
}
