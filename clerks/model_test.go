package clerks_test

import (
	"cmp"
	"maps"
	"slices"
	"testing"

	"aneroid/api"
	"aneroid/archive"
	"aneroid/clerks"
)

// A modelClerk tells what becomes of a clerk, without any blocks: it counts the writes.
type modelClerk struct {
	id            int
	stored, queue []api.Note
	spoilt        map[int]int // the half on which a block is spoilt
	believed      map[int][]int
}

func newModelClerk(id int) *modelClerk {
	return &modelClerk{id: id, spoilt: map[int]int{}, believed: map[int][]int{}}
}

// notes are all that it knows, by name.
func (c *modelClerk) notes() []api.Note {
	return slices.SortedFunc(slices.Values(slices.Concat(c.stored, c.queue)), func(a, b api.Note) int {
		return cmp.Or(cmp.Compare(a.Clerk, b.Clerk), cmp.Compare(a.Num, b.Num))
	})
}

func (c *modelClerk) counts() []int {
	l := counts()
	for _, n := range c.notes() {
		l[n.Clerk-1]++
	}
	return l
}

func (c *modelClerk) believes(id int) []int {
	if l, ok := c.believed[id]; ok {
		return l
	}
	return counts()
}

// hasRoom reports whether the blocks of all notes, and of further ones, are at most 1023.
func (c *modelClerk) hasRoom(further ...api.Note) bool {
	blocks := 0
	for _, n := range slices.Concat(c.stored, c.queue, further) {
		blocks += blocksOf(n)
	}
	return blocks <= 1023
}

func (c *modelClerk) do(n api.Note) api.Errno {
	n.Clerk, n.Num, n.Clock = c.id, c.counts()[c.id-1]+1, 1
	for _, x := range c.notes() {
		n.Clock = max(n.Clock, x.Clock+1)
	}
	switch {
	case len(c.notes()) >= 400 || n.Clock > api.MaxClock:
		return api.ErrLimit
	case archive.CheckNote(base(), n) != api.OK:
		return api.ErrNote
	case !c.hasRoom(n):
		return api.ErrLimit
	}
	with := &modelClerk{stored: c.notes(), queue: []api.Note{n}}
	if n.Kind != api.NoteWithdraw && slices.Contains(must(archive.Fold(base(), with.notes())).Conflicts, nameOf(n)) {
		return api.ErrPlace
	}
	c.queue = append(c.queue, n)
	return api.OK
}

func (c *modelClerk) sync() {
	c.stored, c.queue, c.spoilt = append(c.stored, c.queue...), nil, map[int]int{}
}

func (c *modelClerk) spoil(half, at int) api.Errno {
	if other, ok := c.spoilt[at]; ok && other != half {
		return api.ErrPlace
	}
	c.spoilt[at] = half
	return api.OK
}

// crash keeps a note if block 0 was written behind its blocks: on half 0, as otherwise half 1 has the old one still.
func (c *modelClerk) crash(fates []int) {
	first := append(slices.Clone(fates), 0, 0)[:2]
	left := first[0] - len(c.spoilt)
	for _, n := range c.queue {
		end := 2 * blocksOf(n)
		if left > end || left == end && first[1] == 1 {
			c.stored = append(c.stored, n)
		}
		left -= end + 2
		if left < 0 {
			break
		}
	}
	c.queue, c.spoilt, c.believed = nil, map[int]int{}, map[int][]int{}
}

// hear adds notes of which none is another one than one that is known.
func (c *modelClerk) hear(l []api.Note) api.Errno {
	was := c.queue
	for _, n := range l {
		if n.Num == c.counts()[n.Clerk-1]+1 {
			c.queue = append(slices.Clone(c.queue), n)
		}
	}
	if len(c.notes()) > 400 || !c.hasRoom() {
		c.queue = was
		return api.ErrLimit
	}
	return api.OK
}

// A modelMail is a message before it became bytes.
type modelMail struct {
	from, to int
	counts   []int
	notes    []api.Note
}

// A modelWorld tells what becomes of a world.
type modelWorld struct {
	clerks []*modelClerk
	mails  []modelMail
}

func newModelWorld(n int) *modelWorld {
	w := &modelWorld{}
	for id := range n {
		w.clerks = append(w.clerks, newModelClerk(id+1))
	}
	return w
}

// step takes acts of clerks that there are.
func (w *modelWorld) step(a api.Act) api.Errno {
	if a.Kind >= api.ActDeliver && a.Kind <= api.ActDouble {
		return w.mail(a)
	}
	c := w.clerks[a.Clerk-1]
	switch a.Kind {
	case api.ActDo:
		return c.do(a.Note)
	case api.ActSync:
		c.sync()
	case api.ActSend:
		c.sync()
		m := modelMail{a.Clerk, a.To, c.counts(), nil}
		for _, n := range c.notes() {
			if n.Num > c.believes(a.To)[n.Clerk-1] && len(m.notes) < 16 {
				m.notes = append(m.notes, n)
			}
		}
		w.mails = append(w.mails, m)
	case api.ActCrash:
		c.crash(a.Fates)
	case api.ActSpoil:
		return c.spoil(a.To, a.Index)
	}
	return api.OK
}

func (w *modelWorld) mail(a api.Act) api.Errno {
	if a.Index < 0 || a.Index >= len(w.mails) {
		return api.ErrNone
	}
	m := w.mails[a.Index]
	if a.Kind == api.ActDouble {
		w.mails = append(w.mails, m)
		return api.OK
	}
	w.mails = slices.Concat(w.mails[:a.Index], w.mails[a.Index+1:])
	if a.Kind == api.ActLose {
		return api.OK
	}
	e := w.clerks[m.to-1].hear(m.notes)
	if e == api.OK {
		w.clerks[m.to-1].believed[m.from] = m.counts
	}
	return e
}

func (w *modelWorld) settle() {
	all := map[api.Name]api.Note{}
	for _, c := range w.clerks {
		for _, n := range c.notes() {
			all[nameOf(n)] = n
		}
	}
	union := (&modelClerk{stored: slices.Collect(maps.Values(all))}).notes()
	for _, c := range w.clerks {
		c.sync()
		c.hear(union)
		c.sync()
	}
}

// act is any act, mostly one that can happen.
func (d dice) act(w *modelWorld) api.Act {
	clerk := d.from(1, len(w.clerks))
	switch d.IntN(18) {
	case 0, 1, 2, 3, 4:
		return does(clerk, d.note(w.clerks[clerk-1].notes()))
	case 5:
		return syncs(clerk)
	case 6, 7, 8:
		if len(w.mails) > 20 {
			return loses(0)
		}
		return sends(clerk, 1+(clerk+d.IntN(len(w.clerks)-1))%len(w.clerks))
	case 9, 10, 11, 12:
		return delivers(d.from(-1, len(w.mails)))
	case 13:
		return loses(d.from(0, len(w.mails)))
	case 14:
		return doubles(d.from(0, len(w.mails)))
	case 15, 16:
		return spoils(clerk, d.from(0, 1), d.from(0, 3))
	}
	return crashes(clerk, d.fates()...)
}

// expectModel compares all that a world tells with its model.
func expectModel(t *testing.T, w *clerks.World, model *modelWorld) {
	t.Helper()
	for _, m := range model.clerks {
		c := w.ClerkOf(m.id)
		expectClerk(t, c, len(m.queue), m.notes()...)
		for id := range 10 {
			want := []int(nil)
			if id >= 1 && id <= 8 {
				want = m.believes(id)
			}
			expect(t, c.Believes(id), api.OK, want)
		}
	}
	var mails []api.Mail
	for _, m := range model.mails {
		mails = append(mails, api.Mail{From: m.from, To: m.to, Body: body(m.counts, m.notes...)})
	}
	expectMails(t, w, mails...)
}

// TestModel lets anything happen, in a world and in its model.
func TestModel(t *testing.T) {
	x := newDice(4)
	seen := map[[2]int]int{}
	for range 60 {
		n := x.from(2, 4)
		w, model := newWorld(n), newModelWorld(n)
		for range 80 {
			a := x.act(model)
			e := model.step(a)
			expectErrno(t, w.Step(a), e)
			seen[[2]int{a.Kind, int(e)}]++
			expectModel(t, w, model)
			if t.Failed() {
				t.Fatal(a)
			}
		}
		model.settle()
		expectErrno(t, w.Settle(), api.OK)
		expectModel(t, w, model)
	}
	for _, c := range []struct {
		kind int
		e    api.Errno
	}{
		{api.ActDo, api.OK}, {api.ActDo, api.ErrPlace},
		{api.ActSync, api.OK}, {api.ActSend, api.OK},
		{api.ActDeliver, api.OK}, {api.ActDeliver, api.ErrNone},
		{api.ActLose, api.OK}, {api.ActDouble, api.OK}, {api.ActCrash, api.OK},
		{api.ActSpoil, api.OK}, {api.ActSpoil, api.ErrPlace},
	} {
		enough(t, seen[[2]int{c.kind, int(c.e)}], 10)
	}
}
