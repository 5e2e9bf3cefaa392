package clerks

import (
	"aneroid/api"
	"aneroid/codes"
)

// A letter is what a message says: the counts of its sender, and notes, as their encodings.
type letter struct {
	counts []int
	notes  [][]byte
}

// letterTo returns the message that a clerk has for another one.
func (c *Clerk) letterTo(id int) []byte {
	x := letter{counts: c.Counts()}
	for _, n := range c.Lacks(c.Believes(id)) {
		x.notes = append(x.notes, bytesOf(n))
	}
	// All numbers of a letter are small enough for an encoding.
	l, _ := codes.Encode(x, passLetter)
	return l
}

// receive hears the notes of a message, and believes its counts.
func (c *Clerk) receive(from int, body []byte) api.Errno {
	x, ok := codes.Decode(body, passLetter)
	if !ok || len(x.counts) != api.MaxClerks {
		return api.ErrCode
	}
	var notes []api.Note
	for _, l := range x.notes {
		n, e := Decode(c.base, l)
		if e != api.OK {
			return e
		}
		notes = append(notes, n)
	}
	if _, e := c.Hear(notes); e != api.OK {
		return e
	}
	c.believed[from-1] = counts(x.counts)
	return api.OK
}

// passLetter takes a coder through a letter.
func passLetter(c codes.Coder, x *letter) {
	codes.List(c, &x.counts, codes.Number)
	codes.List(c, &x.notes, codes.Bytes)
}
