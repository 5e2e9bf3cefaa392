package archive_test

import (
	"testing"

	"aneroid/api"
	"aneroid/archive"
)

func TestMerge(t *testing.T) {
	l := example()
	for _, c := range []struct{ x, y, want []api.Note }{
		{nil, nil, nil},
		{l, nil, l},
		{nil, l, l},
		{l, l, l},
		{l[:2], l[1:], l},
		{l[3:], l[:2], without(l, name(1, 3))},
		{[]api.Note{l[0], l[2], l[4]}, []api.Note{l[1], l[3]}, l},
		{[]api.Note{note(2, 1, 3, api.NoteWithdraw, on(1, 1))}, l, with(l, note(2, 1, 3, api.NoteWithdraw, on(1, 1)))},
		{readsOf(400), readsOf(400)[7:399], readsOf(400)},
	} {
		got, e := archive.Merge(exampleBase(), c.x, c.y)
		expect(t, got, e, c.want)
	}
}

func TestMergeAndForkOfForks(t *testing.T) {
	b := exampleBase()
	changed := func(at ...int) []api.Note {
		l := example()
		for _, i := range at {
			l[i].Day++
		}
		return l
	}
	otherSheet, otherMark := example(), example()
	otherSheet[0].Sheet.Trace[1].Half++
	otherMark[3].Mark.Ticks.Lo--
	for _, c := range []struct {
		x, y []api.Note
		want api.Name
	}{
		{example(), changed(0), name(1, 1)},
		{example(), changed(4), name(1, 5)},
		{changed(1, 3), changed(2), name(1, 2)},
		{changed(2, 3)[2:], example(), name(1, 3)},
		{example(), changed(1)[1:2], name(1, 2)},
		{example(), otherSheet, name(1, 1)},
		{otherMark, example()[2:], name(1, 4)},
		{otherMark, otherSheet, name(1, 1)},
		// A fork comes ahead of the limit.
		{append(readsOf(200), note(2, 1, 5, api.NoteWithdraw, on(1, 1))), append(readsOf(400)[1:], note(2, 1, 6, api.NoteWithdraw, on(1, 1))), name(2, 1)},
	} {
		for _, pair := range [][2][]api.Note{{c.x, c.y}, {c.y, c.x}} {
			at, e := archive.Fork(b, pair[0], pair[1])
			expect(t, at, e, c.want)
			merged, e := archive.Merge(b, pair[0], pair[1])
			expectError(t, merged, e, api.ErrFork)
		}
	}
	for _, pair := range [][2][]api.Note{{nil, nil}, {example(), nil}, {example(), example()}, {example()[:2], example()[2:]}} {
		at, e := archive.Fork(b, pair[0], pair[1])
		expectError(t, at, e, api.ErrNone)
	}
	// Lists without elements are equal to none.
	empty := example()
	empty[2].Sheet.Blots, empty[2].Sheet.Drum.Stops = []int{}, []api.Stop{}
	at, e := archive.Fork(b, example(), empty)
	expectError(t, at, e, api.ErrNone)
}

func TestMergeToTheLimit(t *testing.T) {
	further := note(3, 1, 5, api.NoteWithdraw, on(1, 1))
	merged, e := archive.Merge(exampleBase(), readsOf(399), []api.Note{further})
	expect(t, merged, e, append(readsOf(399), further))
	merged, e = archive.Merge(exampleBase(), readsOf(400), []api.Note{further})
	expectError(t, merged, e, api.ErrLimit)
	merged, e = archive.Merge(exampleBase(), append(readsOf(399), further), readsOf(400))
	expectError(t, merged, e, api.ErrLimit)
	// There is no fork without a note that both sets have.
	at, e := archive.Fork(exampleBase(), readsOf(400), []api.Note{further})
	expectError(t, at, e, api.ErrNone)
}

func TestStands(t *testing.T) {
	l := with(example(),
		note(2, 1, 0, api.NoteWithdraw, on(1, 3)),
		note(2, 2, 0, api.NoteWithdraw, on(2, 3)),
		note(2, 3, 0, api.NoteWithdraw, on(1, 4)),
		note(2, 4, 0, api.NoteHeight, raised(5, height(3, 1, 2)), at(9)),
		note(2, 5, 0, api.NoteHeight, raised(5, height(4, 1, 2)), at(8)),
		note(3, 1, 0, api.NoteWithdraw, on(2, 2)),
		note(3, 5, 0, api.NoteHeight, raised(5, height(5, 1, 2)), at(8)),
	)
	names, e := archive.Stands(exampleBase(), l)
	// A withdrawal stands for nothing, whether it is withdrawn itself or not.
	expect(t, names, e, []api.Name{name(2, 5), name(3, 5), name(2, 4), name(1, 1), name(1, 2), name(1, 5)})
	names, e = archive.Stands(exampleBase(), nil)
	expect(t, names, e, nil)
	names, e = archive.Stands(exampleBase(), []api.Note{note(1, 1, 0, api.NoteWithdraw, on(1, 1))})
	expect(t, names, e, nil)
}

func TestChain(t *testing.T) {
	b := base()
	l := with(example(),
		note(2, 1, 9, api.NoteFile, on(1, 1), under(7, 1)),
		note(2, 2, 9, api.NoteFile, on(1, 2), under(7, 1)),
		note(2, 3, 20, api.NoteFile, on(1, 1), under(7, 2)),
		note(2, 4, 9, api.NoteCorrect, on(1, 2), marked(3, 1, 1)),
		note(2, 5, 9, api.NoteCorrect, on(1, 2), showing(read(5, 0, 0, 0, 0))),
		note(2, 6, 9, api.NoteCorrect, on(1, 3), showing(read(7, 0, 0, 0, 0)), at(1)),
		note(2, 7, 9, api.NoteCorrect, on(1, 3), marked(0, 1, 1), at(2)),
		note(2, 8, 9, api.NoteCorrect, on(1, 1), marked(0, 1, 1)),
		note(2, 9, 9, api.NoteCorrect, on(1, 4), marked(0, 1, 1)),
		note(3, 1, 9, api.NoteWithdraw, on(2, 3)),
		note(3, 2, 9, api.NoteCorrect, on(8, 8), marked(0, 1, 1)),
	)
	for _, c := range []struct{ of, want []api.Name }{
		{[]api.Name{name(1, 1)}, []api.Name{name(2, 1), name(1, 5)}},
		{[]api.Name{name(1, 2)}, []api.Name{name(2, 4), name(2, 5), name(1, 4)}}, // conflicts as well
		{[]api.Name{name(1, 3)}, []api.Name{name(2, 6), name(2, 7)}},
	} {
		names, e := archive.Chain(b, l, c.of[0])
		expect(t, names, e, c.want)
	}
	for _, of := range []api.Name{name(1, 4), name(1, 5), name(2, 1), name(3, 1), name(8, 8), {}, name(-1, 1), name(1, 6)} {
		names, e := archive.Chain(b, l, of)
		expectError(t, names, e, api.ErrNone)
	}
	// It is asked of notes of the set, not only of those that stand.
	gone := with(l, note(3, 3, 9, api.NoteWithdraw, on(1, 1)), note(3, 4, 9, api.NoteWithdraw, on(1, 2)))
	names, e := archive.Chain(b, gone, name(1, 1))
	expect(t, names, e, []api.Name{name(2, 1), name(1, 5)})
	names, e = archive.Chain(b, gone, name(1, 2))
	expect(t, names, e, []api.Name{name(2, 4), name(2, 5), name(1, 4)})
	names, e = archive.Chain(b, example()[:1], name(1, 1))
	expect(t, names, e, nil)
}
