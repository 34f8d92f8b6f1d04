package drizzle

import (
	"slices"
	"sync"

	"drizzle/api"
	"drizzle/sums"
	"drizzle/wire"
)

// Receiver delivers the objects that a Sender sends. Several goroutines may call it at one time.
type Receiver struct {
	lock      sync.Mutex // held as the Sender's is
	block     int
	last      api.Rank // of the object that came last
	length    int      // of the object that came last
	sums      sums.Set // of the object that came last, till it is delivered
	delivered [api.MaxNumber + 1]bool
	ready     []parcel // what was delivered and not taken, in that order
}

// parcel is an object that was delivered.
type parcel struct {
	data   string
	number int
}

// NewReceiver makes a receiver (P8).
func NewReceiver(c api.Config) (*Receiver, api.Errno) {
	if !validConfig(c) {
		return nil, api.ErrSize
	}
	return &Receiver{block: c.Block}, api.OK
}

// Handle takes a frame in (P8).
func (r *Receiver) Handle(frame string) []string {
	r.lock.Lock()
	defer r.lock.Unlock()
	sum, ok := wire.ReadSum(frame, r.block)
	if !ok || !canBe(sum, r.block) {
		return nil
	}
	if !r.delivered[sum.Number] {
		r.gather(sum)
	}
	if !r.delivered[sum.Number] {
		return nil
	}
	return []string{doneText(sum.Number, r.block)}
}

// canBe is whether a sender could tell of such a sum. The check of a frame is no secret: any text may come that bears it out.
func canBe(sum wire.Sum, block int) bool {
	blocks := blockCount(sum.Length, block)
	return sum.Number >= 1 && sum.Number <= api.MaxNumber &&
		blocks <= api.MaxBlocks &&
		sum.Row != 0 && uint64(sum.Row)>>blocks == 0
}

// gather takes in a sum of an object that was not delivered, unless an object of a greater number has come.
func (r *Receiver) gather(sum wire.Sum) {
	if sum.Number > r.last.Number {
		r.begin(sum)
	}
	// Of one object each frame tells the same length.
	if sum.Number < r.last.Number || sum.Length != r.length {
		return
	}
	r.sums.Add(sum.Row, sum.Bytes)
	r.last.Rank = r.sums.Rank()
	if r.last.Rank == r.last.Blocks {
		r.deliver()
	}
}

// begin lets the object of the sum be the last one. Of the one ahead no frame counts any more.
func (r *Receiver) begin(sum wire.Sum) {
	r.last = api.Rank{Number: sum.Number, Blocks: blockCount(sum.Length, r.block)}
	r.length = sum.Length
	r.sums = sums.Set{}
}

// deliver lays the last object ready, without the bytes that its last block was filled up with.
func (r *Receiver) deliver() {
	data := string(r.sums.Join(r.last.Blocks)[:r.length])
	r.ready = append(r.ready, parcel{data: data, number: r.last.Number})
	r.delivered[r.last.Number] = true
	r.sums = sums.Set{}
}

// Take gives the next object that was delivered (P9).
func (r *Receiver) Take() (string, int, api.Errno) {
	r.lock.Lock()
	defer r.lock.Unlock()
	if len(r.ready) == 0 {
		return "", 0, api.ErrNone
	}
	first := r.ready[0]
	// Not cut off at the front alone: its bytes would be kept behind the list.
	r.ready = slices.Delete(r.ready, 0, 1)
	return first.data, first.number, api.OK
}

// Rank tells how far the object is that came last (P8).
func (r *Receiver) Rank() api.Rank {
	r.lock.Lock()
	defer r.lock.Unlock()
	return r.last
}
