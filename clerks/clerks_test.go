package clerks_test

import (
	"math"
	"slices"
	"testing"

	"aneroid/api"
	"aneroid/archive"
	"aneroid/clerks"
)

func newClerk(id int) *clerks.Clerk { return must(clerks.NewClerk(base(), id)) }

// newClerkWith returns the first clerk, who has done notes.
func newClerkWith(t *testing.T, l ...api.Note) *clerks.Clerk {
	t.Helper()
	c := newClerk(1)
	for _, n := range l {
		if _, e := c.Do(n); e != api.OK {
			t.Fatal(n, e)
		}
	}
	return c
}

// counts are those of all clerks; those behind the given ones are 0.
func counts(l ...int) []int { return append(l, make([]int, api.MaxClerks-len(l))...) }

// expectClerk checks all that a clerk tells of its notes.
func expectClerk(t *testing.T, c *clerks.Clerk, waits int, notes ...api.Note) {
	t.Helper()
	expect(t, c.Notes(), api.OK, notes)
	all := counts()
	for _, n := range notes {
		all[n.Clerk-1]++
	}
	expect(t, c.Counts(), api.OK, all)
	expect(t, c.Waits(), api.OK, waits)
}

func TestNewClerk(t *testing.T) {
	for id := 1; id <= api.MaxClerks; id++ {
		c, e := clerks.NewClerk(base(), id)
		expectErrno(t, e, api.OK)
		expectClerk(t, c, 0)
		for other := 1; other <= api.MaxClerks; other++ {
			expect(t, c.Believes(other), api.OK, counts())
		}
		for _, other := range []int{-1, 0, 9} {
			expect(t, c.Believes(other), api.OK, nil)
		}
		expect(t, c.Lacks(nil), api.OK, nil)
	}
	for _, id := range []int{-1, 0, 9} {
		c, e := clerks.NewClerk(base(), id)
		expectError(t, c, e, api.ErrArg)
	}
	for _, b := range badBases() {
		c, e := clerks.NewClerk(b, 1)
		expectError(t, c, e, api.ErrArg)
	}
}

// TestDo checks that a note becomes the clerk's own, whatever its name and clock were.
func TestDo(t *testing.T) {
	c := newClerk(3)
	x := read(77, by(2), at(-5))
	first := read(1, by(3), at(1))
	first.Read = x.Read
	n, e := c.Do(x)
	expect(t, n, e, first)
	expectClerk(t, c, 1, first)
	heard := read(1, by(1), at(500))
	c.Hear([]api.Note{heard})
	second := note(2, api.NoteSheet, by(3), at(501), charted(sheet(3)), under(5, 2))
	n, e = c.Do(note(0, api.NoteSheet, charted(sheet(3)), under(5, 2)))
	expect(t, n, e, second)
	third := note(3, api.NoteMark, by(3), at(502), on(3, 2), marked(1, 3, 4))
	n, e = c.Do(note(0, api.NoteMark, on(3, 2), marked(1, 3, 4)))
	expect(t, n, e, third)
	expectClerk(t, c, 4, heard, first, second, third)
}

// TestDoErrors checks each error, and that nothing changes with it.
func TestDoErrors(t *testing.T) {
	done := []api.Note{
		note(1, api.NoteSheet, charted(sheet(3)), under(5, 2)),
		note(2, api.NoteMark, on(1, 1), marked(1, 3, 4)),
		read(3),
		note(4, api.NoteWithdraw, on(1, 3)),
		note(5, api.NoteSheet, charted(sheet(3)), under(5, 3)),
	}
	c := newClerkWith(t, done...)
	expectDoError := func(n api.Note, want api.Errno) {
		t.Helper()
		got, e := c.Do(n)
		expectError(t, got, e, want)
		expectClerk(t, c, 5, done...)
	}
	expectDoError(note(0, 0), api.ErrNote)
	expectDoError(read(0, showing(6, 1, 2)), api.ErrNote)
	expectDoError(note(0, api.NoteWithdraw, on(1, 401)), api.ErrNote)
	expectDoError(note(0, api.NoteSheet, charted(sheet(3)), under(5, 2)), api.ErrPlace)
	expectDoError(note(0, api.NoteMark, on(1, 2), marked(1, 3, 4)), api.ErrPlace)
	expectDoError(note(0, api.NoteMark, on(1, 1), marked(3, 3, 4)), api.ErrPlace)
	expectDoError(note(0, api.NoteCorrect, on(1, 3), showing(5, 3, 4)), api.ErrPlace)
	expectDoError(note(0, api.NoteCorrect, on(1, 2), showing(5, 3, 4)), api.ErrPlace)
	expectDoError(note(0, api.NoteFile, on(1, 2), under(5, 4)), api.ErrPlace)
	expectDoError(note(0, api.NoteHeight, raised(5, 0, 1, 2)), api.ErrPlace)
	// The note on itself is a conflict as well: it is no sheet.
	expectDoError(note(0, api.NoteMark, on(1, 6), marked(1, 3, 4)), api.ErrPlace)

	// It is the note's own name that must not be a conflict; and any withdrawal can be done.
	earlier := note(6, api.NoteSheet, charted(sheet(3)), under(5, 2))
	earlier.Day = 0
	n, e := c.Do(earlier)
	expect(t, n, e, earlier)
	if !slices.Contains(must(archive.Fold(base(), c.Notes())).Conflicts, name(1, 1)) {
		t.Error("no conflict")
	}
	n, e = c.Do(note(7, api.NoteWithdraw, on(8, 400)))
	expect(t, n, e, note(7, api.NoteWithdraw, on(8, 400)))
}

func TestDoLimits(t *testing.T) {
	c := newClerk(2)
	others := reads(1, 399)
	added, e := c.Hear(others)
	expect(t, added, e, 399)
	n, e := c.Do(read(1, by(2), at(400)))
	expect(t, n, e, read(1, by(2), at(400)))
	n, e = c.Do(read(2))
	expectError(t, n, e, api.ErrLimit)
	n, e = c.Do(note(0, 0)) // ErrLimit comes ahead of ErrNote.
	expectError(t, n, e, api.ErrLimit)
	expectClerk(t, c, 400, append(others, read(1, by(2), at(400)))...)

	c = newClerk(1)
	c.Hear([]api.Note{read(1, by(3), at(api.MaxClock-1))})
	n, e = c.Do(read(1))
	expect(t, n, e, read(1, at(api.MaxClock)))
	n, e = c.Do(read(1))
	expectError(t, n, e, api.ErrLimit)
	n, e = c.Do(note(0, 0))
	expectError(t, n, e, api.ErrLimit)
}

// large is a note of 250 blocks, under a week.
func large(t *testing.T, week int) api.Note {
	n := sized(t, 250)
	n.Week = week
	return n
}

// TestRoom fills a store to its last block, with some notes in the queue and others in the store already.
func TestRoom(t *testing.T) {
	for _, synced := range []int{0, 1, 4} {
		c := newClerk(1)
		for i := range 4 {
			if i == synced {
				c.Sync()
			}
			_, e := c.Do(large(t, i))
			expectErrno(t, e, api.OK)
		}
		// The end is 1001, or will be: there is room for 23 blocks.
		fitting, further := sized(t, 22), sized(t, 24)
		fitting.Week, further.Week = 8, 9
		further.Clerk = 2
		n, e := c.Do(further)
		expectError(t, n, e, api.ErrLimit)
		n, e = c.Do(note(0, api.NoteMark, marked(200, 1, 1), on(9, 9))) // It is no note, whatever there is room for.
		expectError(t, n, e, api.ErrNote)
		added, e := c.Hear([]api.Note{further})
		expectError(t, added, e, api.ErrLimit)
		_, e = c.Do(fitting)
		expectErrno(t, e, api.OK)
		added, e = c.Hear([]api.Note{read(1, by(2)), read(2, by(2))})
		expectError(t, added, e, api.ErrLimit)
		waits := c.Waits()
		if synced == 4 {
			_, e = c.Do(read(1))
		} else {
			_, e = c.Hear([]api.Note{read(1, by(2)), read(3, by(2))})
		}
		expect(t, c.Waits(), e, waits+1)
		n, e = c.Do(read(1))
		expectError(t, n, e, api.ErrLimit)
		// A note without room is told ahead of a conflict.
		n, e = c.Do(note(0, api.NoteMark, on(8, 8), marked(1, 1, 1)))
		expectError(t, n, e, api.ErrLimit)
		expectErrno(t, c.Sync(), api.OK)
		expect(t, c.Waits(), api.OK, 0)
		added, e = c.Hear(c.Notes())
		expect(t, added, e, 0)
	}
}

func TestSync(t *testing.T) {
	c := newClerkWith(t, read(1), read(2))
	p := c.PairOf()
	expectErrno(t, c.Sync(), api.OK)
	expectClerk(t, c, 0, read(1), read(2))
	if p.Writes() != 8 {
		t.Error(p.Writes())
	}
	l, e := clerks.NewStore(p).Records()
	expect(t, l, e, [][]byte{bytesOf(read(1)), bytesOf(read(2))})
	expectErrno(t, c.Sync(), api.OK)
	if p.Writes() != 8 {
		t.Error(p.Writes())
	}
	// It recovers the store, first of all.
	p.Spoil(0, 1)
	p.Spoil(1, 2)
	expectErrno(t, c.Sync(), api.OK)
	expectEqualHalves(t, p)
	// With an error what was done stays.
	for _, num := range []int{3, 4, 5} {
		c.Do(read(num))
	}
	p.Fuse(6, 0)
	expectErrno(t, c.Sync(), api.ErrDown)
	expectClerk(t, c, 2, reads(1, 5)...)
	p.Up()
	expectErrno(t, c.Sync(), api.OK)
	l, e = clerks.NewStore(p).Records()
	expectErrno(t, e, api.OK)
	expect(t, len(l), e, 5)
	ruin(t, p, 1000)
	expectErrno(t, c.Sync(), api.ErrSpoilt)
}

func TestLacks(t *testing.T) {
	c := newClerk(1)
	var all []api.Note
	for _, clerk := range []int{1, 2, 8} {
		all = append(all, reads(clerk, 10)...)
	}
	c.Hear(all)
	for _, x := range []struct {
		counts []int
		want   []api.Note
	}{
		{nil, all[:16]},
		{[]int{0}, all[:16]},
		{[]int{-7, -1 << 63}, all[:16]},
		{[]int{10}, all[10:26]},
		{[]int{7, 9}, slices.Concat(all[7:10], all[19:30])},
		{[]int{8, 10, 5, 5}, slices.Concat(all[8:10], all[20:30])},
		{[]int{math.MaxInt, 3}, slices.Concat(all[13:20], all[20:29])},
		{[]int{10, 10, 0, 0, 0, 0, 0, 9}, all[29:]},
		{[]int{10, 10, 0, 0, 0, 0, 0, 10}, nil},
		{[]int{10, 10, 0, 0, 0, 0, 0, math.MaxInt, 3, 3}, nil},
	} {
		expect(t, c.Lacks(x.counts), api.OK, x.want)
	}
}

func TestHear(t *testing.T) {
	c := newClerk(1)
	l := reads(2, 5)
	own := reads(1, 2)
	added, e := c.Hear(nil)
	expect(t, added, e, 0)
	added, e = c.Hear([]api.Note{l[1], l[0], l[2], own[0], l[1], l[4], l[0]})
	expect(t, added, e, 3) // l[1] is passed over, and then added; l[2] and l[4] are passed over
	expectClerk(t, c, 3, own[0], l[0], l[1])
	added, e = c.Hear(l)
	expect(t, added, e, 3)
	expectClerk(t, c, 6, slices.Concat(own[:1], l)...)
	added, e = c.Hear(l)
	expect(t, added, e, 0)
	n, e := c.Do(read(9))
	expect(t, n, e, read(2, at(6), showing(5, 9000, 9009)))
	// The queue has them in the order in which they came.
	c.Sync()
	records, e := clerks.NewStore(c.PairOf()).Records()
	var stored [][]byte
	for _, x := range slices.Concat([]api.Note{l[0], own[0], l[1]}, l[2:], []api.Note{n}) {
		stored = append(stored, bytesOf(x))
	}
	expect(t, records, e, stored)
}

// TestHearErrors checks each error, and that nothing changes with it.
func TestHearErrors(t *testing.T) {
	c := newClerk(1)
	l := reads(2, 5)
	c.Hear(l[:2])
	other := func(n api.Note) api.Note {
		n.Day++
		return n
	}
	expectHearError := func(want api.Errno, list ...api.Note) {
		t.Helper()
		added, e := c.Hear(list)
		expectError(t, added, e, want)
		expectClerk(t, c, 2, l[:2]...)
	}
	for _, bad := range malformed() {
		expectHearError(api.ErrNote, l[2], bad)
		expectHearError(api.ErrNote, other(l[0]), bad)
	}
	expectHearError(api.ErrFork, l[2], other(l[0]))
	expectHearError(api.ErrFork, l[2], l[3], other(l[2]))
	expectHearError(api.ErrFork, l[2], other(l[2]), l[3])
	tooMany := slices.Concat(reads(3, 400), l[2:])
	expectHearError(api.ErrLimit, tooMany...)
	expectHearError(api.ErrFork, append(tooMany, other(l[0]))...)
	expectHearError(api.ErrFork, append(tooMany, other(tooMany[399]))...)
	expectHearError(api.ErrLimit, reads(3, 399)...)

	// Of a note that was passed over there may be another one.
	added, e := c.Hear([]api.Note{other(l[3]), l[2], l[3]})
	expect(t, added, e, 2)
	added, e = c.Hear(reads(3, 396))
	expect(t, added, e, 396)
}

// TestCrashExamples are the examples of the chapter, and what is near them.
func TestCrashExamples(t *testing.T) {
	for _, c := range []struct {
		fates []int
		known int
	}{
		{nil, 0},
		{[]int{0}, 0},
		{[]int{0, 1}, 0},
		{[]int{0, 2}, 0},
		{[]int{1, 2}, 0},
		{[]int{2}, 0},
		{[]int{2, 0}, 0},
		{[]int{2, 1}, 1},
		{[]int{2, 2}, 0},
		{[]int{2, 2, 0, 0}, 0},
		{[]int{2, 1, 0, 2, 0, 2}, 1},
		{[]int{3}, 1},
		{[]int{3, 2, 0}, 1},
		{[]int{4}, 1},
		{[]int{6, 0}, 1},
		{[]int{6, 1}, 2},
		{[]int{7}, 2},
		{[]int{1 << 62, 2, 1 << 62, 1}, 2},
		{[]int{0, 0, 0, 0, 0, 0, 0, 0, 0, 0, 0, 0, 0, 0, 0, 0}, 0},
	} {
		k := newClerkWith(t, read(1), read(2))
		expectErrno(t, k.Crash(c.fates), api.OK)
		expectClerk(t, k, 0, reads(1, c.known)...)
		expectEqualHalves(t, k.PairOf())
		if k.PairOf().Down() {
			t.Error("down")
		}
		// It goes on as if it had never known more; there is no fuse left.
		n, e := k.Do(read(1))
		expect(t, nameOf(n), e, name(1, c.known+1))
		expectErrno(t, k.Sync(), api.OK)
	}
}

// TestWritesOfCrashes tells by the writes that were done what was tried, and when.
func TestWritesOfCrashes(t *testing.T) {
	for i, c := range []struct {
		fates []int
		want  int
	}{
		{nil, 0},
		{[]int{1}, 2},          // one half of block 1, and the other one by recovery
		{[]int{2, 2}, 3},       // both, and what was spoilt
		{[]int{2, 2, 0, 1}, 2}, // the same: it was written as the power went
		{[]int{2, 2, 0, 0}, 3},
		{[]int{2, 2, 1, 0}, 3}, // recovered ahead of the end of its fuse
		{[]int{9}, 4},
	} {
		k := newClerkWith(t, read(1))
		expectErrno(t, k.Crash(c.fates), api.OK)
		if p := k.PairOf(); p.Writes() != c.want {
			t.Error(i, p.Writes())
		}
	}
}

func TestCrashErrors(t *testing.T) {
	for _, fates := range [][]int{
		make([]int, 17),
		{-1},
		{-1, 0},
		{0, 3},
		{0, -1},
		{0, 0, -1},
		{0, 0, 0, 0, 5, 3},
		{math.MinInt, 0},
	} {
		c := newClerkWith(t, read(1))
		expectErrno(t, c.Crash(fates), api.ErrArg)
		expectClerk(t, c, 1, read(1))
		if p := c.PairOf(); p.Writes() != 0 {
			t.Error(p.Writes())
		}
	}
}

// TestCrashOfRecovery lets the power go while blocks that decayed are recovered.
func TestCrashOfRecovery(t *testing.T) {
	for n := range 6 {
		for fate := range 3 {
			c := newClerkWith(t, read(1))
			c.Sync()
			c.PairOf().Spoil(0, 0)
			c.PairOf().Spoil(1, 1)
			c.Do(read(2))
			expectErrno(t, c.Crash([]int{n, fate, 0, 2, 0, 1}), api.OK)
			known := 1
			if n > 4 || n == 4 && fate == 1 { // two writes recover, two write the block, the next one writes the end
				known = 2
			}
			expectClerk(t, c, 0, reads(1, known)...)
		}
	}
}
