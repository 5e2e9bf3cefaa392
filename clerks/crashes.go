package clerks

import (
	"slices"

	"aneroid/api"
)

// maxFates is how many numbers the fates of a crash may be.
const maxFates = 16

// Crash lets the power go.
func (c *Clerk) Crash(fates []int) api.Errno {
	fuses, ok := fusesOf(fates)
	if !c.isMade() || !ok {
		return api.ErrArg
	}
	for i, f := range fuses {
		c.store.fuse = &f
		// What comes of it does not matter: at last the store is recovered with the power on.
		if i == 0 {
			c.Sync()
		} else {
			c.store.Recover()
		}
		c.store.up()
	}
	if e := c.store.Recover(); e != api.OK {
		return e
	}
	return c.remember()
}

// fusesOf returns the fuses of fates; false, if these are not right.
func fusesOf(fates []int) ([]fuse, bool) {
	if len(fates) > maxFates {
		return nil, false
	}
	if len(fates) == 0 {
		return []fuse{{0, fateNothing}}, true
	}
	var fuses []fuse
	for l := range slices.Chunk(fates, 2) {
		f := fuse{l[0], fateNothing}
		if len(l) > 1 {
			f.fate = l[1]
		}
		if !f.isRight() {
			return nil, false
		}
		fuses = append(fuses, f)
	}
	return fuses, true
}

// remember lets the clerk know just what its store has.
func (c *Clerk) remember() api.Errno {
	k := nothingKnown()
	for l, e := range c.store.records() {
		if e != api.OK {
			return e
		}
		n, e := Decode(c.base, l)
		if e != api.OK {
			return e
		}
		k.learn(n)
	}
	c.known, c.queue, c.believed = k, nil, [api.MaxClerks]counts{}
	return api.OK
}
