package clerks_test

import (
	"slices"
	"testing"

	"aneroid/api"
	"aneroid/archive"
	"aneroid/clerks"
)

// expectBegins checks that a list begins with another one, and goes on with some first elements of a third one.
func expectBegins(t *testing.T, l, begin, then []api.Note) (kept int) {
	t.Helper()
	kept = len(l) - len(begin)
	if kept < 0 || kept > len(then) || !same(l, append(slices.Clone(begin), then[:kept]...)) {
		t.Error(l, "is not", begin, "with some of", then)
	}
	return kept
}

// inOrder are the notes of a clerk in the order in which they came: those of its store first.
func inOrder(t *testing.T, c *clerks.Clerk) []api.Note {
	t.Helper()
	var l []api.Note
	for _, b := range must(clerks.NewStore(c.PairOf()).Records()) {
		l = append(l, must(clerks.Decode(base(), b)))
	}
	return l
}

// TestWhatWasSynced is P9.6, for all fuses and fates at which something can go wrong.
func TestWhatWasSynced(t *testing.T) {
	long := note(0, api.NoteSheet, charted(sheet(20)), under(5, 1))
	seen := map[int]int{}
	for n := range 22 {
		for fate := range 3 {
			for _, further := range [][]int{nil, {0, 2}, {0, 1, 0, 2, 1, 2}} {
				c := newClerkWith(t, read(1), long)
				c.Hear(reads(2, 1))
				c.Sync()
				synced := inOrder(t, c)
				c.PairOf().Spoil(n%2, n%5)
				queue := []api.Note{must(c.Do(read(1))), read(2, by(2))}
				c.Hear(queue[1:])
				queue = append(queue, must(c.Do(note(0, api.NoteSheet, charted(sheet(30)), under(5, 2)))))
				expectErrno(t, c.Crash(append([]int{n, fate}, further...)), api.OK)
				after := inOrder(t, c)
				seen[expectBegins(t, after, synced, queue)]++
				expect(t, len(c.Notes()), api.OK, len(after))
			}
		}
	}
	for kept := range 4 {
		enough(t, seen[kept], 5)
	}
}

// A watch remembers what a world promised.
type watch struct {
	world *clerks.World
	n     int
	kept  []map[api.Name]bool     // of each clerk: what it had synced
	by    map[api.Name][]api.Note // all that was ever written
	heard map[api.Name]bool       // what another one had heard
}

func newWatch(n int) *watch {
	w := &watch{world: newWorld(n), n: n, by: map[api.Name][]api.Note{}, heard: map[api.Name]bool{}}
	for range n {
		w.kept = append(w.kept, map[api.Name]bool{})
	}
	return w
}

// keep notes what a clerk has in its store.
func (w *watch) keep(id int) {
	for _, n := range must(w.world.Notes(id)) {
		w.kept[id-1][nameOf(n)] = true
	}
}

// step lets something happen, and notes what was written and synced.
func (w *watch) step(a api.Act) api.Errno {
	e := w.world.Step(a)
	if e != api.OK {
		return e
	}
	switch a.Kind {
	case api.ActDo:
		l := must(w.world.Notes(a.Clerk))
		own := slices.DeleteFunc(l, func(n api.Note) bool { return n.Clerk != a.Clerk })
		n := own[len(own)-1]
		w.by[nameOf(n)] = append(w.by[nameOf(n)], n)
	case api.ActSync, api.ActSend:
		w.keep(a.Clerk)
	}
	return e
}

// check is P9.6, P9.7 and P9.9, for what is known now.
func (w *watch) check(t *testing.T) {
	t.Helper()
	all := map[api.Name]api.Note{}
	for id := 1; id <= w.n; id++ {
		c := w.world.ClerkOf(id)
		knows := c.Counts()
		for n := range w.kept[id-1] {
			if knows[n.Clerk-1] < n.Num {
				t.Error("what was synced is lost:", id, n)
			}
		}
		for other := 1; other <= w.n; other++ {
			for i, count := range c.Believes(other) {
				if other != id && count > w.world.ClerkOf(other).Counts()[i] {
					t.Error(id, "believes too much of", other)
				}
			}
		}
		for _, n := range c.Notes() {
			if !slices.ContainsFunc(w.by[nameOf(n)], func(x api.Note) bool { return archive.Same(x, n) }) {
				t.Error("nobody wrote", n)
			}
			if x, ok := all[nameOf(n)]; ok && !archive.Same(x, n) {
				t.Error("two notes of one name:", n, x)
			}
			all[nameOf(n)] = n
			if n.Clerk != id {
				w.heard[nameOf(n)] = true
			}
		}
	}
}

// progress is P9.10: it sends a message, and delivers it next. It reports whether progress was promised.
func (w *watch) progress(t *testing.T, from, to int) bool {
	t.Helper()
	sender, receiver := w.world.ClerkOf(from), w.world.ClerkOf(to)
	was := receiver.Counts()
	right := slices.Equal(sender.Believes(to), was)
	lacks := slices.ContainsFunc(sender.Notes(), func(n api.Note) bool { return n.Num > was[n.Clerk-1] })
	if w.step(sends(from, to)) != api.OK || w.step(delivers(len(w.world.Mails())-1)) != api.OK {
		t.Fatal("not delivered")
	}
	promised := right && lacks
	if promised && slices.Equal(receiver.Counts(), was) {
		t.Error("no progress")
	}
	return promised
}

// settle is P9.8.
func (w *watch) settle(t *testing.T) {
	t.Helper()
	promised := map[api.Name]bool{}
	for n := range w.heard {
		promised[n] = true
	}
	for id := range w.n {
		for n := range w.kept[id] {
			promised[n] = true
		}
	}
	expectErrno(t, w.world.Settle(), api.OK)
	first := must(w.world.Notes(1))
	for id := 1; id <= w.n; id++ {
		l := must(w.world.Notes(id))
		expect(t, l, api.OK, first)
		expect(t, must(archive.Fold(base(), l)), api.OK, must(archive.Fold(base(), first)))
		expectErrno(t, w.world.Step(crashes(id)), api.OK)
		expect(t, must(w.world.Notes(id)), api.OK, first)
	}
	for n := range promised {
		if !slices.ContainsFunc(first, func(x api.Note) bool { return nameOf(x) == n }) {
			t.Error("is not among the notes:", n)
		}
	}
}

// TestWorlds is P9.6 to P9.10, for any acts. (A note that was heard, but not synced, is with its author still.)
func TestWorlds(t *testing.T) {
	x := newDice(5)
	steps, lost := 0, 0
	for range 150 {
		n := x.from(2, 4)
		w, model := newWatch(n), newModelWorld(n)
		for range 70 {
			a := x.act(model)
			model.step(a)
			w.step(a)
			w.check(t)
			if x.IntN(10) == 0 {
				from := x.from(1, n)
				to := 1 + (from+x.IntN(n-1))%n
				model.step(sends(from, to))
				model.step(delivers(len(model.mails) - 1))
				if w.progress(t, from, to) {
					steps++
				}
				w.check(t)
			}
			if t.Failed() {
				t.Fatal(a)
			}
		}
		for _, l := range w.by {
			lost += len(l) - 1
		}
		w.settle(t)
		w.check(t)
	}
	enough(t, steps, 100)
	enough(t, lost, 50)
}

// TestOnlyMail brings all notes to all clerks by messages alone, though many of these are lost and doubled.
func TestOnlyMail(t *testing.T) {
	x := newDice(6)
	w := newWorld(3)
	for i := range 90 {
		happen(t, w, does(1+i%3, x.plain()))
	}
	knows := func() int {
		least := 90
		for id := 1; id <= 3; id++ {
			least = min(least, len(must(w.Notes(id))))
		}
		return least
	}
	for range 1000 {
		if len(w.Mails()) < 40 {
			from := x.from(1, 3)
			happen(t, w, sends(from, 1+(from+x.IntN(2))%3))
		}
		i := x.IntN(len(w.Mails()))
		happen(t, w, []func(int) api.Act{delivers, delivers, loses, doubles}[x.IntN(4)](i))
		if knows() == 90 {
			return
		}
	}
	t.Error("only", knows(), "are known to all")
}

// plain is a note that conflicts with none.
func (d dice) plain() api.Note { return read(0, showing(7, d.from(0, 10), d.from(10, 20))) }
