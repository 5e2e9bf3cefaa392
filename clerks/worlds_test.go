package clerks_test

import (
	"slices"
	"testing"

	"aneroid/api"
	"aneroid/clerks"
)

func newWorld(n int) *clerks.World { return must(clerks.NewWorld(base(), n)) }

func does(clerk int, n api.Note) api.Act { return api.Act{Kind: api.ActDo, Clerk: clerk, Note: n} }

func syncs(clerk int) api.Act { return api.Act{Kind: api.ActSync, Clerk: clerk} }

func sends(clerk, to int) api.Act { return api.Act{Kind: api.ActSend, Clerk: clerk, To: to} }

func delivers(i int) api.Act { return api.Act{Kind: api.ActDeliver, Index: i} }

func loses(i int) api.Act { return api.Act{Kind: api.ActLose, Index: i} }

func doubles(i int) api.Act { return api.Act{Kind: api.ActDouble, Index: i} }

func crashes(clerk int, fates ...int) api.Act {
	return api.Act{Kind: api.ActCrash, Clerk: clerk, Fates: fates}
}

func spoils(clerk, half, at int) api.Act {
	return api.Act{Kind: api.ActSpoil, Clerk: clerk, To: half, Index: at}
}

// happen lets acts happen, none of which returns an error.
func happen(t *testing.T, w *clerks.World, acts ...api.Act) {
	t.Helper()
	for _, a := range acts {
		if e := w.Step(a); e != api.OK {
			t.Fatal(a, e)
		}
	}
}

// body is that of a message.
func body(counts []int, notes ...api.Note) []byte {
	l := codeOf(append([]int{api.MaxClerks}, counts...)...)
	l = append(l, codeOf(len(notes))...)
	for _, n := range notes {
		l = slices.Concat(l, codeOf(len(bytesOf(n))), bytesOf(n))
	}
	return l
}

func expectMails(t *testing.T, w *clerks.World, want ...api.Mail) {
	t.Helper()
	expect(t, w.Mails(), api.OK, want)
}

func expectNotes(t *testing.T, w *clerks.World, clerk int, want ...api.Note) {
	t.Helper()
	l, e := w.Notes(clerk)
	expect(t, l, e, want)
}

func TestNewWorld(t *testing.T) {
	for n := 1; n <= api.MaxClerks; n++ {
		w, e := clerks.NewWorld(base(), n)
		expectErrno(t, e, api.OK)
		for id := 1; id <= n; id++ {
			expectNotes(t, w, id)
		}
		for _, id := range []int{-1, 0, n + 1} {
			l, e := w.Notes(id)
			expectError(t, l, e, api.ErrNone)
		}
		expectMails(t, w)
	}
	for _, n := range []int{-1, 0, 9} {
		w, e := clerks.NewWorld(base(), n)
		expectError(t, w, e, api.ErrArg)
	}
	for _, b := range badBases() {
		w, e := clerks.NewWorld(b, 1)
		expectError(t, w, e, api.ErrArg)
	}
}

// TestSending is the example of the chapter, with the way back, on which there is nothing to tell.
func TestSending(t *testing.T) {
	w := newWorld(2)
	l := reads(1, 3)
	happen(t, w, does(1, l[0]), does(1, l[1]), does(1, l[2]), sends(1, 2))
	expectMails(t, w, api.Mail{From: 1, To: 2, Body: body(counts(3), l...)})
	expect(t, w.ClerkOf(1).Waits(), api.OK, 0)
	happen(t, w, delivers(0))
	expectMails(t, w)
	expectNotes(t, w, 2, l...)
	expect(t, w.ClerkOf(2).Believes(1), api.OK, counts(3))
	expect(t, w.ClerkOf(2).Waits(), api.OK, 3)
	expect(t, w.ClerkOf(1).Believes(2), api.OK, counts())
	own := read(1, by(2), at(4))
	happen(t, w, does(2, own), sends(2, 1))
	expectMails(t, w, api.Mail{From: 2, To: 1, Body: body(counts(3, 1), own)})
	happen(t, w, delivers(0), sends(1, 2))
	expect(t, w.ClerkOf(1).Believes(2), api.OK, counts(3, 1))
	expectMails(t, w, api.Mail{From: 1, To: 2, Body: body(counts(3, 1))})
	// What is believed is what was told last, not the most that was told.
	happen(t, w, does(1, read(4, at(5))), sends(1, 2), delivers(1))
	expect(t, w.ClerkOf(2).Believes(1), api.OK, counts(4, 1))
	happen(t, w, delivers(0))
	expect(t, w.ClerkOf(2).Believes(1), api.OK, counts(3, 1))
}

// TestMail loses, doubles and delays messages.
func TestMail(t *testing.T) {
	w := newWorld(3)
	happen(t, w, does(1, read(1)), sends(1, 2), sends(1, 3), does(1, read(2)), sends(1, 2))
	one := api.Mail{From: 1, To: 2, Body: body(counts(1), read(1))}
	two := api.Mail{From: 1, To: 3, Body: body(counts(1), read(1))}
	three := api.Mail{From: 1, To: 2, Body: body(counts(2), read(1), read(2))}
	expectMails(t, w, one, two, three)
	happen(t, w, doubles(0))
	expectMails(t, w, one, two, three, one)
	happen(t, w, delivers(2))
	expectMails(t, w, one, two, one)
	expectNotes(t, w, 2, read(1), read(2))
	happen(t, w, delivers(2))
	expectNotes(t, w, 2, read(1), read(2))
	happen(t, w, loses(1))
	expectMails(t, w, one)
	expectNotes(t, w, 3)
	for _, i := range []int{-1, 1, 64} {
		for _, kind := range []int{api.ActDeliver, api.ActLose, api.ActDouble} {
			// They have no clerk.
			expectErrno(t, w.Step(api.Act{Kind: kind, Index: i, Clerk: 99}), api.ErrNone)
		}
	}
	happen(t, w, api.Act{Kind: api.ActLose, Clerk: -1, To: 99})
	expectMails(t, w)
}

// TestGift sends more notes than a message has.
func TestGift(t *testing.T) {
	w := newWorld(2)
	l := reads(1, 20)
	for _, n := range l {
		happen(t, w, does(1, n))
	}
	happen(t, w, sends(1, 2), delivers(0))
	expectNotes(t, w, 2, l[:16]...)
	happen(t, w, sends(1, 2)) // It believes that 2 knows nothing, still.
	expectMails(t, w, api.Mail{From: 1, To: 2, Body: body(counts(20), l[:16]...)})
	happen(t, w, loses(0), sends(2, 1), delivers(0), sends(1, 2), delivers(0))
	expectNotes(t, w, 2, l...)
}

func TestFullMail(t *testing.T) {
	w := newWorld(2)
	happen(t, w, sends(1, 2))
	for range api.MaxMail - 1 {
		happen(t, w, doubles(0))
	}
	happen(t, w, does(1, read(1)))
	expectErrno(t, w.Step(doubles(0)), api.ErrLimit)
	expectErrno(t, w.Step(doubles(64)), api.ErrNone)
	expectErrno(t, w.Step(sends(1, 1)), api.ErrArg)
	expect(t, w.ClerkOf(1).Waits(), api.OK, 1)
	expectErrno(t, w.Step(sends(1, 2)), api.ErrLimit)
	expect(t, w.ClerkOf(1).Waits(), api.OK, 0) // It has synced.
	expect(t, len(w.Mails()), api.OK, api.MaxMail)
	happen(t, w, loses(63), sends(1, 2))
	expect(t, w.Mails()[63].Body, api.OK, body(counts(1), read(1)))
}

// TestStepErrors checks acts that cannot happen: nothing does then.
func TestStepErrors(t *testing.T) {
	w := newWorld(2)
	happen(t, w, does(1, read(1)), sends(1, 2), does(1, read(2)))
	for i, c := range []struct {
		act  api.Act
		want api.Errno
	}{
		{api.Act{}, api.ErrArg},
		{api.Act{Kind: 9, Clerk: 1}, api.ErrArg},
		{api.Act{Kind: -1}, api.ErrArg},
		{does(0, read(1)), api.ErrArg},
		{does(3, read(1)), api.ErrArg},
		{does(3, api.Note{}), api.ErrArg},
		{does(1, api.Note{}), api.ErrNote},
		{does(1, note(1, api.NoteMark, on(1, 1), marked(1, 1, 1))), api.ErrPlace},
		{syncs(0), api.ErrArg},
		{syncs(3), api.ErrArg},
		{sends(0, 1), api.ErrArg},
		{sends(3, 1), api.ErrArg},
		{sends(1, 0), api.ErrArg},
		{sends(1, 1), api.ErrArg},
		{sends(1, 3), api.ErrArg},
		{crashes(3), api.ErrArg},
		{crashes(1, -1), api.ErrArg},
		{crashes(1, make([]int, 17)...), api.ErrArg},
		{spoils(0, 0, 0), api.ErrArg},
		{spoils(1, 2, 0), api.ErrArg},
		{spoils(1, -1, 0), api.ErrArg},
		{spoils(1, 0, -1), api.ErrArg},
		{spoils(1, 0, 1024), api.ErrArg},
		{delivers(1), api.ErrNone},
		{loses(-1), api.ErrNone},
	} {
		if e := w.Step(c.act); e != c.want {
			t.Error(i, e)
		}
		expectClerk(t, w.ClerkOf(1), 1, read(1), read(2))
		expectMails(t, w, api.Mail{From: 1, To: 2, Body: body(counts(1), read(1))})
	}
	happen(t, w, spoils(1, 0, 1), spoils(1, 0, 1), spoils(1, 1, 1023))
	expectErrno(t, w.Step(spoils(1, 1, 1)), api.ErrPlace)
	happen(t, w, syncs(1))
	expectEqualHalves(t, w.ClerkOf(1).PairOf())
}

// TestCrashInWorld checks that a clerk that crashes loses what it had not synced, and what it believed.
func TestCrashInWorld(t *testing.T) {
	w := newWorld(2)
	happen(t, w, does(1, read(1)), sends(1, 2), delivers(0), does(2, read(1, by(2))), sends(2, 1), delivers(0))
	expect(t, w.ClerkOf(1).Believes(2), api.OK, counts(1, 1))
	happen(t, w, does(1, read(2)), crashes(1, 1, 2))
	expectNotes(t, w, 1, read(1))
	expect(t, w.ClerkOf(1).Believes(2), api.OK, counts())
	expectNotes(t, w, 2, read(1), read(1, by(2), at(2)))
	happen(t, w, does(1, read(9)), sends(1, 2), delivers(0))
	expectNotes(t, w, 2, read(1), read(2, at(2), showing(5, 9000, 9009)), read(1, by(2), at(2)))
}

// TestDeliverErrors delivers what a clerk has no room for: the message is gone, and its counts are not believed.
func TestDeliverErrors(t *testing.T) {
	w := newWorld(2)
	for week := range 4 {
		happen(t, w, does(2, large(t, week)))
	}
	further := sized(t, 24)
	happen(t, w, does(1, further), sends(1, 2))
	expectErrno(t, w.Step(delivers(0)), api.ErrLimit)
	expectMails(t, w)
	expect(t, w.ClerkOf(2).Waits(), api.OK, 4)
	expect(t, w.ClerkOf(2).Believes(1), api.OK, counts())
}

func TestSettle(t *testing.T) {
	w := newWorld(3)
	first, second, third := reads(1, 40), reads(2, 3), reads(3, 1)
	for _, l := range [][]api.Note{first, second, third} {
		for _, n := range l {
			happen(t, w, does(n.Clerk, n))
		}
	}
	happen(t, w, sends(1, 2), spoils(3, 0, 5), spoils(1, 1, 3))
	expectErrno(t, w.Settle(), api.OK)
	for id := range 3 {
		expectClerk(t, w.ClerkOf(id+1), 0, slices.Concat(first, second, third)...)
		expectEqualHalves(t, w.ClerkOf(id+1).PairOf())
		expect(t, w.ClerkOf(id+1).Believes(1), api.OK, counts())
	}
	expect(t, len(w.Mails()), api.OK, 1)
	expectErrno(t, newWorld(8).Settle(), api.OK)
}

// TestSettleErrors settles what is too much: 401 notes (400 are not), and notes for which there is no room.
func TestSettleErrors(t *testing.T) {
	w := newWorld(3)
	for _, n := range slices.Concat(reads(1, 199), reads(2, 200), reads(3, 2)) {
		happen(t, w, does(n.Clerk, n))
	}
	expectErrno(t, w.Settle(), api.ErrLimit)
	for id, waits := range []int{199, 200, 2} {
		expectClerk(t, w.ClerkOf(id+1), waits, reads(id+1, waits)...)
	}
	happen(t, w, crashes(3, 5))
	expectErrno(t, w.Settle(), api.OK)
	for id := range 3 {
		expectClerk(t, w.ClerkOf(id+1), 0, slices.Concat(reads(1, 199), reads(2, 200), reads(3, 1))...)
	}

	w = newWorld(3)
	for week := range 4 {
		happen(t, w, does(2, large(t, week)))
	}
	happen(t, w, does(1, sized(t, 24)))
	expectErrno(t, w.Settle(), api.ErrLimit)
	// The first one has synced ahead of hearing.
	for id, waits := range []int{0, 4, 0} {
		expect(t, w.ClerkOf(id+1).Waits(), api.OK, waits)
	}
	expect(t, len(must(w.Notes(1))), api.OK, 1)
}

// TestNoMessages receives bytes that are no message: nothing is heard or believed then.
func TestNoMessages(t *testing.T) {
	good := body(counts(1), read(1))
	c := newClerk(2)
	expectErrno(t, c.Receive(1, good), api.OK)
	expectClerk(t, c, 1, read(1))
	c = newClerk(2)
	short, long := codeOf(7, 1, 0, 0, 0, 0, 0, 0, 0), codeOf(9, 1, 0, 0, 0, 0, 0, 0, 0, 0, 0)
	for i, l := range [][]byte{
		nil,
		good[:len(good)-1],
		append(slices.Clone(good), 0),
		short,
		long,
		codeOf(8, 1, 0, 0, 0, 0, 0, 0, 0),
		append(codeOf(8, 1, 0, 0, 0, 0, 0, 0, 0, 1, 2), 0, 0),
		append(codeOf(8, 1, 0, 0, 0, 0, 0, 0, 0, 2), good[10:]...),
		append(codeOf(8, 1, 0, 0, 0, 0, 0, 0, 0, 1, -1), good[11:]...),
	} {
		if e := c.Receive(1, l); e != api.ErrCode {
			t.Error(i, e)
		}
		expectClerk(t, c, 0)
		expect(t, c.Believes(1), api.OK, counts())
	}
}

// TestErrorsOfStores ruins a block, as no act can do it: the errors of the store are those of the acts.
func TestErrorsOfStores(t *testing.T) {
	w := newWorld(3)
	happen(t, w, does(1, read(1)), does(2, read(1)))
	ruin(t, w.ClerkOf(2).PairOf(), 9)
	expectErrno(t, w.Step(syncs(2)), api.ErrSpoilt)
	expectErrno(t, w.Step(sends(2, 1)), api.ErrSpoilt)
	expectMails(t, w)
	expectErrno(t, w.Step(crashes(2)), api.ErrSpoilt)
	expectErrno(t, w.Settle(), api.ErrSpoilt)
	// The first one had settled; nothing further is done.
	expectClerk(t, w.ClerkOf(1), 0, read(1), read(1, by(2)))
	expectClerk(t, w.ClerkOf(2), 1, read(1, by(2)))
	expectClerk(t, w.ClerkOf(3), 0)

	for i, c := range []struct {
		record []byte
		end    int
		want   api.Errno
	}{
		{[]byte{1}, 2, api.ErrCode}, // no note
		{bytesOf(read(1)), 3, api.ErrCode},
		{bytesOf(read(1)), 2, api.OK},
	} {
		k := newClerk(1)
		s := clerks.NewStore(k.PairOf())
		expectErrno(t, s.Append(c.record), api.OK)
		s.Put(0, blockOfEnd(c.end))
		if e := k.Crash(nil); e != c.want {
			t.Error(i, e)
		}
	}
}
