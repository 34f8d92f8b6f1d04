// Package drizzle: objects sent as sums of their blocks, till the receiver has enough: see DOC.md.
package drizzle

import "drizzle/api"

// Receiver delivers the objects that a Sender sends.
type Receiver struct{}

// NewReceiver makes a receiver (P8).
func NewReceiver(c api.Config) (*Receiver, api.Errno) { return nil, api.OK }

// Handle takes a frame in (P8).
func (r *Receiver) Handle(frame string) []string { return nil }

// Take gives the next object that was delivered (P9).
func (r *Receiver) Take() (string, int, api.Errno) { return "", 0, api.OK }

// Rank tells how far the object is that came last (P8).
func (r *Receiver) Rank() api.Rank { return api.Rank{} }
