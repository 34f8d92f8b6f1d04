// Package drizzle: objects sent as sums of their blocks, till the receiver has enough: see DOC.md.
package drizzle
