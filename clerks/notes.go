package clerks

import (
	"slices"

	"aneroid/api"
	"aneroid/archive"
	"aneroid/codes"
)

// Encode returns a note as bytes.
func Encode(b api.Base, n api.Note) ([]byte, api.Errno) {
	if archive.CheckNote(b, n) != api.OK {
		return nil, api.ErrNote
	}
	return bytesOf(n), api.OK
}

// Decode returns the note of which bytes are the encoding.
func Decode(b api.Base, l []byte) (api.Note, api.Errno) {
	n, ok := codes.Decode(l, note)
	if !ok || archive.CheckNote(b, n) != api.OK {
		return api.Note{}, api.ErrCode
	}
	return n, api.OK
}

// bytesOf returns the encoding of a well-formed note. (All its numbers have one.)
func bytesOf(n api.Note) []byte {
	l, _ := codes.Encode(n, note)
	return l
}

// note takes a coder through a note.
func note(c codes.Coder, n *api.Note) {
	codes.Numbers(c, &n.Clerk, &n.Num, &n.Clock, &n.Day, &n.Kind, &n.Station, &n.Week)
	codes.Sheet(c, &n.Sheet)
	codes.Mark(c, &n.Mark)
	codes.Reading(c, &n.Read)
	codes.Height(c, &n.Height)
	codes.Name(c, &n.Ref)
}

func nameOf(n api.Note) api.Name { return api.Name{Clerk: n.Clerk, Num: n.Num} }

// copyNote returns a note that shares no memory with another one.
func copyNote(n api.Note) api.Note {
	s := &n.Sheet
	s.Trace, s.Blots = slices.Clone(s.Trace), slices.Clone(s.Blots)
	s.Drum.Rates, s.Drum.Stops = slices.Clone(s.Drum.Rates), slices.Clone(s.Drum.Stops)
	return n
}

// copyBase returns a base that shares no memory with another one.
func copyBase(b api.Base) api.Base {
	b.Stations = slices.Clone(b.Stations)
	for i := range b.Stations {
		s := &b.Stations[i]
		s.Heights = slices.Clone(s.Heights)
	}
	return b
}
