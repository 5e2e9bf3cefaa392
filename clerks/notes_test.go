package clerks_test

import (
	"bytes"
	"slices"
	"testing"

	"aneroid/api"
	"aneroid/archive"
	"aneroid/clerks"
)

// codeOf returns the encoding of numbers, digit by digit as the chapter says it.
func codeOf(numbers ...int) []byte {
	var l []byte
	for _, n := range numbers {
		u := 2 * n
		if n < 0 {
			u = -2*n - 1
		}
		digits := []byte{byte(u % 128)}
		for u /= 128; u > 0; u /= 128 {
			digits = append(digits, byte(u%128+128))
		}
		slices.Reverse(digits)
		l = append(l, digits...)
	}
	return l
}

// numbersOf returns the numbers of a note in the order of its encoding.
func numbersOf(n api.Note) []int {
	p, pen := n.Sheet.Paper, n.Sheet.Pen
	l := []int{n.Clerk, n.Num, n.Clock, n.Day, n.Kind, n.Station, n.Week}
	l = append(l, p.Pitch, p.Height, p.Radius, p.Low, p.High, p.Columns, p.Along.Lo, p.Along.Hi, p.Across.Lo, p.Across.Hi)
	l = append(l, len(n.Sheet.Trace))
	for _, x := range n.Sheet.Trace {
		l = append(l, x.X, x.Y, x.Half)
	}
	l = append(l, len(n.Sheet.Blots))
	l = append(l, n.Sheet.Blots...)
	l = append(l, len(n.Sheet.Drum.Rates))
	for _, x := range n.Sheet.Drum.Rates {
		l = append(l, x.Lo, x.Hi)
	}
	l = append(l, len(n.Sheet.Drum.Stops))
	for _, x := range n.Sheet.Drum.Stops {
		l = append(l, x.Column, x.Ticks.Lo, x.Ticks.Hi)
	}
	l = append(l, pen.Band, pen.Zero.Lo, pen.Zero.Hi, pen.Rate)
	l = append(l, n.Mark.Column, n.Mark.Ticks.Lo, n.Mark.Ticks.Hi)
	l = append(l, n.Read.Station, n.Read.Week, n.Read.Tick, n.Read.Levels.Lo, n.Read.Levels.Hi)
	l = append(l, n.Height.Week, n.Height.Metres.Lo, n.Height.Metres.Hi)
	return append(l, n.Ref.Clerk, n.Ref.Num)
}

func TestEncode(t *testing.T) {
	for _, n := range kinds() {
		l, e := clerks.Encode(base(), n)
		expect(t, l, e, codeOf(numbersOf(n)...))
		back, e := clerks.Decode(base(), l)
		expect(t, back, e, n)
	}
	// The bytes of a withdrawal, one by one.
	expect(t, bytesOf(note(8, api.NoteWithdraw, on(2, 70), at(65))), api.OK, slices.Concat(
		[]byte{2, 16, 129, 2, 6, 14, 0, 0},
		make([]byte, 18), make([]byte, 3), make([]byte, 5), make([]byte, 3),
		[]byte{4, 129, 12}))
}

// malformed are notes that are not well-formed, though each number has an encoding.
func malformed() []api.Note {
	l := []api.Note{
		{},
		read(1, by(9)),
		read(0),
		read(1, at(0)),
		read(1, at(api.MaxClock+1)),
		read(1, showing(6, 1, 2)),
		read(1, showing(5, 2, 1)),
		read(1, on(1, 1)),
		note(1, 8),
		note(1, api.NoteMark, on(1, 1), marked(200, 1, 2)),
		note(1, api.NoteSheet, under(5, 3)),
		note(1, api.NoteSheet, charted(sheet(2)), under(5, -1)),
		note(1, api.NoteWithdraw),
	}
	blotted := note(1, api.NoteSheet, charted(sheet(2)), under(5, 3))
	blotted.Sheet.Blots = []int{2, 0}
	return append(l, blotted)
}

func TestNoNotes(t *testing.T) {
	for _, n := range malformed() {
		l, e := clerks.Encode(base(), n)
		expectError(t, l, e, api.ErrNote)
		back, e := clerks.Decode(base(), codeOf(numbersOf(n)...))
		expectError(t, back, e, api.ErrCode)
	}
	far := read(1)
	far.Day = 1 << 62
	l, e := clerks.Encode(base(), far)
	expectError(t, l, e, api.ErrNote)
	for _, b := range badBases() {
		l, e := clerks.Encode(b, read(1))
		expectError(t, l, e, api.ErrNote)
		n, e := clerks.Decode(b, bytesOf(read(1)))
		expectError(t, n, e, api.ErrCode)
	}
}

// TestLargestNote encodes a sheet with as much as a sheet may have: it is a record still.
func TestLargestNote(t *testing.T) {
	s := api.Sheet{
		Paper: api.Paper{Pitch: 10000, Height: 400000, Radius: 4000000, Low: 11999, High: 12000, Columns: 200, Along: span(1100, 1100), Across: span(1100, 1100)},
		Trace: slices.Repeat([]api.Point{{X: 400000, Y: 400000, Half: 5000}}, api.MaxPoints),
		Drum:  api.Drum{Rates: slices.Repeat([]api.Span{span(40, 40)}, 199), Stops: slices.Repeat([]api.Stop{{Column: 198, Ticks: span(400, 400)}}, 16)},
		Pen:   api.Pen{Band: 8, Zero: span(160, 200), Rate: 12000},
	}
	for i := range 200 {
		s.Blots = append(s.Blots, i)
	}
	n := note(400, api.NoteSheet, by(8), at(api.MaxClock), charted(s), under(5, 10000))
	l, e := clerks.Encode(base(), n)
	expect(t, l, e, codeOf(numbersOf(n)...))
	list, e := clerks.Blocks(l)
	if e != api.OK {
		t.Fatal(e, len(l))
	}
	back, used, e := clerks.Record(list)
	expect(t, back, e, l)
	expect(t, used, e, len(list))
}

// expectBytes is P9.2 for any bytes: if they are decoded at all, they are the encoding of what they are decoded to.
func expectBytes(t *testing.T, l []byte) (ok bool) {
	t.Helper()
	n, e := clerks.Decode(base(), l)
	if e != api.OK {
		expectError(t, n, e, api.ErrCode)
		return false
	}
	expect(t, bytesOf(n), e, l)
	return true
}

// TestOtherBytes is P9.2: it cuts, lengthens and changes the bytes of notes.
func TestOtherBytes(t *testing.T) {
	notes := 0
	for _, n := range kinds() {
		l := bytesOf(n)
		for i := range l {
			if expectBytes(t, l[:i]) {
				t.Error(l[:i], "is cut, but a note")
			}
			// A digit 0 ahead of a number, where one begins.
			if i == 0 || l[i-1] < 128 {
				if expectBytes(t, slices.Concat(l[:i], []byte{128}, l[i:])) {
					t.Error(l, "with a further digit 0 at", i)
				}
			}
			for x := range 256 {
				changed := bytes.Clone(l)
				changed[i] = byte(x)
				if expectBytes(t, changed) {
					notes++
				}
			}
		}
		for x := range 256 {
			if expectBytes(t, append(bytes.Clone(l), byte(x))) {
				t.Error(l, x, "is lengthened, but a note")
			}
		}
	}
	enough(t, notes, 1000)
}

// TestBytesOfLists decodes lists of which the number of elements is not right.
func TestBytesOfLists(t *testing.T) {
	n := note(1, api.NoteSheet, charted(sheet(0)), under(5, 3))
	l := numbersOf(n)
	const trace = 17 // where the length of the trace is
	for _, length := range []int{-1, -2, 1, 1000, 1<<62 - 1, -1 << 62} {
		changed := slices.Clone(l)
		changed[trace] = length
		back, e := clerks.Decode(base(), codeOf(changed...))
		expectError(t, back, e, api.ErrCode)
	}
	back, e := clerks.Decode(base(), codeOf(l...))
	expect(t, back, e, n)
}

// TestRandomNotes is P9.2 for notes of all kinds.
func TestRandomNotes(t *testing.T) {
	x := newDice(1)
	for range 2000 {
		n := x.note(nil)
		n.Clerk, n.Num, n.Clock = x.from(1, 8), x.from(1, 400), x.from(1, api.MaxClock)
		expectErrno(t, archive.CheckNote(base(), n), api.OK)
		l, e := clerks.Encode(base(), n)
		expect(t, l, e, codeOf(numbersOf(n)...))
		back, e := clerks.Decode(base(), l)
		if e != api.OK || !archive.Same(back, n) {
			t.Fatal(n, back, e)
		}
	}
}
