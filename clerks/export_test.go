package clerks

import "aneroid/api"

// The following lets tests see and do what a world keeps to itself.

// ClerkOf returns a clerk of a world.
func (w *World) ClerkOf(id int) *Clerk { return w.clerk(id) }

// PairOf returns the pair of a clerk's store.
func (c *Clerk) PairOf() *Pair { return &Pair{c.store.pair} }

// Receive receives a message.
func (c *Clerk) Receive(from int, body []byte) api.Errno { return c.receive(from, body) }
