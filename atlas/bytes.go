package atlas

import (
	"aneroid/api"
	"aneroid/codes"
)

// The hash of bytes is reckoned with these numbers.
const (
	hashFirst  = 23
	hashFactor = 281
	hashModule = 2147483549
)

// Hash returns the hash of bytes.
func Hash(b []byte) int {
	h := hashFirst
	for _, x := range b {
		h = (hashFactor*h + int(x) + 1) % hashModule
	}
	return h
}

// Encode returns an atlas as bytes.
func Encode(x api.Atlas) ([]byte, api.Errno) { return coding[api.Atlas](passAtlas).write(x) }

// Decode returns the atlas of bytes.
func Decode(b []byte) (api.Atlas, api.Errno) { return coding[api.Atlas](passAtlas).read(b) }

// A coding is how values of a type are written as bytes and read again: it takes a coder through one.
type coding[T any] func(c codes.Coder, x *T)

// write returns a value as bytes. ErrLimit, if one of its numbers is too large.
func (by coding[T]) write(x T) ([]byte, api.Errno) {
	l, ok := codes.Encode(x, by)
	if !ok {
		return nil, api.ErrLimit
	}
	return l, api.OK
}

// read returns the value of which bytes are the encoding. ErrBytes, if there is none.
func (by coding[T]) read(l []byte) (T, api.Errno) {
	x, ok := codes.Decode(l, by)
	if !ok {
		return x, api.ErrBytes
	}
	return x, api.OK
}

// listOf returns the coding of lists of what has a coding.
func listOf[E any](of coding[E]) coding[[]E] {
	return func(c codes.Coder, l *[]E) { codes.List(c, l, of) }
}

func passAtlas(c codes.Coder, x *api.Atlas) {
	passBase(c, &x.Base)
	passWeek(c, &x.Week)
	codes.Number(c, &x.Rise)
	trouble := int(x.Trouble)
	codes.Number(c, &trouble)
	x.Trouble = api.Errno(trouble)
	listOf(passShown)(c, &x.Shown)
	claims := listOf(passClaim)
	claims(c, &x.Core)
	listOf(claims)(c, &x.Drops)
}

func passBase(c codes.Coder, b *api.Base) {
	listOf(passStation)(c, &b.Stations)
	codes.Numbers(c, &b.Wind.Fixed, &b.Wind.Each, &b.Term, &b.Ticks, &b.Clerks)
}

func passStation(c codes.Coder, s *api.Station) {
	codes.Numbers(c, &s.ID, &s.X, &s.Y)
	listOf(codes.Height)(c, &s.Heights)
}

func passWeek(c codes.Coder, w *api.Week) {
	passBase(c, &w.Base)
	codes.Number(c, &w.Week)
	listOf(passFiled)(c, &w.Sheets)
	listOf(codes.Reading)(c, &w.Reads)
}

func passFiled(c codes.Coder, f *api.Filed) {
	codes.Name(c, &f.Name)
	codes.Numbers(c, &f.Station, &f.Week)
	codes.Sheet(c, &f.Sheet)
	listOf(codes.Mark)(c, &f.Marks)
	listOf(codes.Name)(c, &f.Names)
}

func passShown(c codes.Coder, s *api.Shown) {
	listOf(listOf(codes.Span))(c, &s.Levels)
	courses := listOf(listOf(passCourse))
	courses(c, &s.Least)
	courses(c, &s.Most)
	listOf(codes.Number)(c, &s.Fronts)
}

func passCourse(c codes.Coder, x *api.Course) {
	codes.Number(c, &x.Zero)
	numbers := listOf(codes.Number)
	numbers(c, &x.Ticks)
	numbers(c, &x.Shown)
	numbers(c, &x.Levels)
}

func passClaim(c codes.Coder, x *api.Claim) { codes.Numbers(c, &x.Kind, &x.Sheet, &x.Index) }
