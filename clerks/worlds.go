package clerks

import (
	"slices"

	"aneroid/api"
)

// World is clerks that send one another messages.
type World struct {
	clerks []*Clerk
	mails  []api.Mail
}

// NewWorld returns clerks that know no notes.
func NewWorld(b api.Base, n int) (*World, api.Errno) {
	if !between(n, 1, api.MaxClerks) {
		return nil, api.ErrArg
	}
	w := &World{}
	for id := 1; id <= n; id++ {
		c, e := NewClerk(b, id)
		if e != api.OK {
			return nil, e
		}
		w.clerks = append(w.clerks, c)
	}
	return w, api.OK
}

// Step lets something happen.
func (w *World) Step(a api.Act) api.Errno {
	if !w.isMade() {
		return api.ErrArg
	}
	switch a.Kind {
	case api.ActDeliver, api.ActLose, api.ActDouble:
		if !between(a.Index, 0, len(w.mails)-1) {
			return api.ErrNone
		}
	case api.ActDo, api.ActSync, api.ActSend, api.ActCrash, api.ActSpoil:
		if !w.has(a.Clerk) {
			return api.ErrArg
		}
	default:
		return api.ErrArg
	}
	acts := map[int]func(api.Act) api.Errno{
		api.ActDo:      w.do,
		api.ActSync:    w.sync,
		api.ActSend:    w.send,
		api.ActDeliver: w.deliver,
		api.ActLose:    w.lose,
		api.ActDouble:  w.double,
		api.ActCrash:   w.crash,
		api.ActSpoil:   w.spoil,
	}
	return acts[a.Kind](a)
}

// Settle lets all clerks know all notes.
func (w *World) Settle() api.Errno {
	if !w.isMade() {
		return api.ErrArg
	}
	all := w.notes()
	if len(all) > api.MaxNotes {
		return api.ErrLimit
	}
	for _, c := range w.clerks {
		if e := c.settle(all); e != api.OK {
			return e
		}
	}
	return api.OK
}

// Notes returns the notes that a clerk knows.
func (w *World) Notes(clerk int) ([]api.Note, api.Errno) {
	if !w.isMade() {
		return nil, api.ErrArg
	}
	if !w.has(clerk) {
		return nil, api.ErrNone
	}
	return w.clerk(clerk).Notes(), api.OK
}

// Mails returns the messages in transit.
func (w *World) Mails() []api.Mail {
	if !w.isMade() {
		return nil
	}
	l := slices.Clone(w.mails)
	for i := range l {
		l[i].Body = slices.Clone(l[i].Body)
	}
	return l
}

// isMade reports whether a world was made by NewWorld.
func (w *World) isMade() bool { return w != nil && len(w.clerks) > 0 }

func (w *World) has(id int) bool { return between(id, 1, len(w.clerks)) }

func (w *World) clerk(id int) *Clerk { return w.clerks[id-1] }

// notes returns all notes that any clerk knows, by name.
func (w *World) notes() []api.Note {
	all := nothingKnown()
	for _, c := range w.clerks {
		for n := range c.beyond(nil) {
			if all.follows(n) {
				all.learn(n)
			}
		}
	}
	return all.all()
}

// settle lets a clerk know further notes, and keep all that it knows.
func (c *Clerk) settle(further []api.Note) api.Errno {
	if e := c.Sync(); e != api.OK {
		return e
	}
	if _, e := c.Hear(further); e != api.OK {
		return e
	}
	return c.Sync()
}
