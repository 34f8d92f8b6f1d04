// Package drizzle: objects sent as sums of their blocks, till the receiver has enough: see DOC.md.
package drizzle

import "drizzle/api"

// Sender sends objects; Receiver delivers them.
type Sender struct{}

type Receiver struct{}

// NewSender makes a sender (P5).
func NewSender(c api.Config) (*Sender, api.Errno) { return nil, api.OK }

// Submit takes an object in (P5).
func (s *Sender) Submit(data string, nonce uint64) (int, api.Errno) { return 0, api.OK }

// Tick lets a tick go by (P6).
func (s *Sender) Tick() []string { return nil }

// Handle takes a frame in (P7).
func (s *Sender) Handle(frame string) {}

// Status tells of an object (P5).
func (s *Sender) Status(number int) (api.Status, api.Errno) { return api.Status{}, api.OK }

// NewReceiver makes a receiver (P8).
func NewReceiver(c api.Config) (*Receiver, api.Errno) { return nil, api.OK }

// Handle takes a frame in (P8).
func (r *Receiver) Handle(frame string) []string { return nil }

// Take gives the next object that was delivered (P9).
func (r *Receiver) Take() (string, int, api.Errno) { return "", 0, api.OK }

// Rank tells how far the object is that came last (P8).
func (r *Receiver) Rank() api.Rank { return api.Rank{} }
