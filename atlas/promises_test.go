package atlas_test

import (
	"bytes"
	"fmt"
	"reflect"
	"slices"
	"strings"
	"testing"

	"aneroid/api"
	"aneroid/archive"
	"aneroid/atlas"
	"aneroid/clerks"
	"aneroid/weeks"
)

// noted returns an atlas of a random week, with so many notes that may be false.
func (d dice) noted(s size, falseNotes int) api.Atlas {
	tr := d.truth(d.from(0, 5), s)
	for range falseNotes {
		tr.note(d.falseNote(tr))
	}
	return must(atlas.Build(tr.base, tr.register(), tr.week, d.one(-4, -3, -2, -1, 1, 2, 3, 4)))
}

// regional yields courses of the region of a week, as somebody finds them who asks for levels; and such as are made of two of them.
func (d dice) regional(w api.Week, count int) func(yield func([]api.Course) bool) {
	return func(yield func([]api.Course) bool) {
		var before []api.Course
		for range count {
			i, tick := d.IntN(len(w.Sheets)), d.from(0, w.Base.Ticks)
			set := must(weeks.Level(w, i, tick))
			s := set[d.IntN(len(set))]
			l := must(weeks.Courses(w, i, tick, d.from(s.Lo, s.Hi)))
			if !yield(l) {
				return
			}
			// Of each sheet the course with the lesser level at the term (P7.4).
			mixed := slices.Clone(l)
			for k, c := range before {
				if c.Levels[w.Base.Term] < l[k].Levels[w.Base.Term] {
					mixed[k] = c
				}
			}
			if !yield(mixed) {
				return
			}
			before = l
		}
	}
}

func isFront(c api.Course, tick, rise int) bool {
	by := c.Levels[tick+1] - c.Levels[tick]
	return rise > 0 && by >= rise || rise < 0 && by <= rise
}

// TestAloneIsEnough is P10.3 for the sheets: an atlas without faults tells the truth about courses that others find, and its own courses reach the ends.
func TestAloneIsEnough(t *testing.T) {
	x := newDice(20)
	fronts := map[int]int{}
	for i := range 60 {
		a := copied(x.noted(usual, i%3))
		if len(a.Shown) == 0 {
			continue
		}
		expectFaults(t, i, a)
		w := must(atlas.Standing(a))
		for l := range x.regional(w, 10) {
			if weeks.Keeps(w, l) != api.OK {
				t.Fatal(w, l)
			}
			for i, c := range l {
				id := w.Sheets[i].Station
				for tick, level := range c.Levels {
					if !must(atlas.May(a, id, tick, level)) {
						t.Fatal(w, l, i, tick)
					}
				}
				for tick := range w.Base.Ticks {
					chance := must(atlas.FrontOf(a, id, tick))
					is := isFront(c, tick, a.Rise)
					if is && chance == api.FrontNever || !is && chance == api.FrontCertain {
						t.Fatal(w, l, i, tick)
					}
					fronts[chance]++
				}
			}
		}
		for i, f := range w.Sheets {
			for tick := range w.Base.Ticks + 1 {
				s := must(atlas.SpanOf(a, f.Station, tick))
				low, high := must(atlas.CoursesOf(a, f.Station, tick, false)), must(atlas.CoursesOf(a, f.Station, tick, true))
				if weeks.Keeps(w, low) != api.OK || weeks.Keeps(w, high) != api.OK || low[i].Levels[tick] != s.Lo || high[i].Levels[tick] != s.Hi {
					t.Fatal(w, i, tick)
				}
			}
		}
	}
	enough(t, "never", fronts[api.FrontNever], 500)
	enough(t, "certain", fronts[api.FrontCertain], 20)
}

// sets returns all sets of claims, as lists.
func sets(claims []api.Claim) [][]api.Claim {
	all := [][]api.Claim{nil}
	for _, c := range claims {
		for _, l := range slices.Clone(all) {
			all = append(all, append(slices.Clone(l), c))
		}
	}
	return all
}

func isWholeWithout(w api.Week, l []api.Claim) bool {
	return must(weeks.Whole(must(weeks.Without(w, l))))
}

// TestContradictions is P10.3 for the Core and the Drops, and P10.6: whoever corrects otherwise corrects at least as much.
func TestContradictions(t *testing.T) {
	x := newDice(21)
	clashes, several := 0, 0
	for clashes < 25 {
		a := x.noted(size{stations: 2, ticks: 5, marks: 2, reads: 2}, x.from(1, 3))
		if a.Trouble == api.OK {
			if len(a.Core)+len(a.Drops) > 0 || !must(weeks.Whole(a.Week)) {
				t.Fatal(a)
			}
			continue
		}
		clashes++
		claims := must(weeks.Claims(a.Week))
		others := func(l []api.Claim) []api.Claim {
			return slices.DeleteFunc(slices.Clone(claims), func(c api.Claim) bool { return slices.Contains(l, c) })
		}
		if isWholeWithout(a.Week, others(a.Core)) {
			t.Fatal(a.Week, a.Core)
		}
		if !must(weeks.Whole(must(atlas.Standing(a)))) || !same(must(atlas.Corrected(a)), a.Drops[0]) {
			t.Fatal(a.Week, a.Drops)
		}
		for _, l := range sets(claims) {
			if len(l) < len(a.Core) && !isWholeWithout(a.Week, others(l)) {
				t.Fatal(a.Week, a.Core, l)
			}
			whole := isWholeWithout(a.Week, l)
			isDrop := slices.ContainsFunc(a.Drops, func(drop []api.Claim) bool { return slices.Equal(drop, l) })
			if whole && len(l) < len(a.Drops[0]) || isDrop != (whole && len(l) == len(a.Drops[0])) {
				t.Fatal(a.Week, a.Drops, l)
			}
		}
		if len(a.Core) > 1 || len(a.Drops[0]) > 1 {
			several++
		}
	}
	enough(t, "more than one claim", several, 5)
}

// TestAsItReallyWas is P10.4: what is told is true, and stays true with further true notes.
func TestAsItReallyWas(t *testing.T) {
	x := newDice(22)
	for i := range 40 {
		tr := x.truth(x.from(0, 5), usual)
		rise := x.one(-4, -2, 2, 4)
		var atlases []api.Atlas
		for range 3 {
			a := must(atlas.Build(tr.base, tr.register(), tr.week, rise))
			if a.Trouble != api.OK {
				t.Fatal(tr, a.Trouble)
			}
			atlases = append(atlases, a)
			if i%2 == 0 {
				tr.note(x.trueRead(tr))
			} else {
				tr.note(x.trueMark(tr, 0, 0))
			}
		}
		for k, c := range tr.courses {
			id := tr.base.Stations[k].ID
			for tick, level := range c.Levels {
				for _, a := range atlases {
					if !must(atlas.May(a, id, tick, level)) {
						t.Fatal(tr, id, tick)
					}
				}
				first, last := must(atlas.SpanOf(atlases[0], id, tick)), must(atlas.SpanOf(atlases[2], id, tick))
				if last.Lo < first.Lo || last.Hi > first.Hi {
					t.Fatal(tr, first, last)
				}
			}
			checkRealFronts(t, atlases, id, c)
		}
	}
}

// checkRealFronts checks that atlases, each of which knows more than the one ahead of it, tell the truth of fronts.
func checkRealFronts(t *testing.T, l []api.Atlas, id int, real api.Course) {
	t.Helper()
	for tick := range l[0].Base.Ticks {
		is := isFront(real, tick, l[0].Rise)
		for _, a := range l {
			chance := must(atlas.FrontOf(a, id, tick))
			if is && chance == api.FrontNever || !is && chance == api.FrontCertain {
				t.Fatal(id, tick, chance)
			}
		}
	}
}

// published returns an atlas without the courses, which may be any.
func published(x api.Atlas) api.Atlas {
	for i := range x.Shown {
		x.Shown[i].Least, x.Shown[i].Most = nil, nil
	}
	return x
}

// act returns something that happens in a world of two clerks.
func (d dice) act() api.Act {
	clerk := d.from(1, 2)
	switch d.IntN(8) {
	case 0:
		return api.Act{Kind: api.ActSync, Clerk: clerk}
	case 1, 2:
		return api.Act{Kind: api.ActSend, Clerk: clerk, To: 3 - clerk}
	case 3, 4:
		return api.Act{Kind: d.from(api.ActDeliver, api.ActDouble), Index: d.IntN(3)}
	case 5:
		return api.Act{Kind: api.ActCrash, Clerk: clerk, Fates: some(d, func() int { return d.IntN(3) })}
	case 6:
		return api.Act{Kind: api.ActSpoil, Clerk: clerk, To: d.IntN(2), Index: d.IntN(9)}
	}
	return api.Act{}
}

// TestOneAtlas is P10.5: clerks who write down, send, lose and forget notes have one atlas behind settling; and what was known on a day does not change by what is noted later.
func TestOneAtlas(t *testing.T) {
	x := newDice(23)
	for range 25 {
		tr := x.truth(3, usual)
		w := must(clerks.NewWorld(tr.base, 2))
		for _, n := range tr.notes {
			// Some notes fail, as those that they are about are not known.
			w.Step(api.Act{Kind: api.ActDo, Clerk: x.from(1, 2), Note: n})
			for range x.IntN(4) {
				w.Step(x.act())
			}
		}
		if e := w.Settle(); e != api.OK {
			t.Fatal(e)
		}
		notes := must(w.Notes(1))
		if !same(notes, must(w.Notes(2))) {
			t.Fatal(notes)
		}
		var atlases []api.Atlas
		for clerk := 1; clerk <= 2; clerk++ {
			r := must(archive.Fold(tr.base, must(w.Notes(clerk))))
			atlases = append(atlases, must(atlas.Build(tr.base, r, 3, 2)))
		}
		expectFaults(t, "settled", atlases[1])
		if !same(published(atlases[0]), published(atlases[1])) {
			t.Fatal(atlases)
		}
		day, clock := x.from(0, len(tr.notes)), x.from(0, 9)
		early := slices.DeleteFunc(slices.Clone(notes), func(n api.Note) bool { return n.Day > day || n.Clock > clock })
		known := must(archive.AsOf(tr.base, notes, day, clock))
		alone := must(archive.Fold(tr.base, early))
		if !same(must(atlas.Build(tr.base, known, 3, 2)), must(atlas.Build(tr.base, alone, 3, 2))) {
			t.Fatal(notes, day, clock)
		}
	}
}

// scriptOf returns a script that makes a base, and in which the first clerk writes down notes of the chapter's kinds.
func scriptOf(b api.Base, notes []api.Note) string {
	var s strings.Builder
	add := func(word string, args ...int) { s.WriteString(lineOf(word, args...)) }
	for _, x := range b.Stations {
		add("station", x.ID, x.X, x.Y, x.Heights[0].Metres.Lo, x.Heights[0].Metres.Hi)
	}
	add("wind", b.Wind.Fixed, b.Wind.Each)
	add("ticks", b.Ticks, b.Term)
	add("begin", b.Clerks)
	for _, n := range notes {
		switch n.Kind {
		case api.NoteSheet:
			p, q := n.Sheet.Paper, n.Sheet.Pen
			add("paper", p.Pitch, p.Height, p.Radius, p.Low, p.High, p.Columns, p.Along.Lo, p.Along.Hi, p.Across.Lo, p.Across.Hi)
			add("pen", q.Band, q.Zero.Lo, q.Zero.Hi, q.Rate)
			for _, x := range n.Sheet.Trace {
				add("point", x.X, x.Y, x.Half)
			}
			for _, x := range n.Sheet.Drum.Rates {
				add("rate", x.Lo, x.Hi)
			}
			add("sheet", 1, n.Day, n.Station, n.Week)
		case api.NoteMark:
			add("mark", 1, n.Day, n.Ref.Clerk, n.Ref.Num, n.Mark.Column, n.Mark.Ticks.Lo, n.Mark.Ticks.Hi)
		case api.NoteRead:
			add("read", 1, n.Day, n.Read.Station, n.Read.Week, n.Read.Tick, n.Read.Levels.Lo, n.Read.Levels.Hi)
		}
	}
	return s.String()
}

// TestConsoleAsksAll compares what the console answers with what the layers tell.
func TestConsoleAsksAll(t *testing.T) {
	x := newDice(24)
	for i := range 40 {
		tr := x.truth(x.from(0, 3), size{stations: 3, ticks: 5, marks: 1, reads: 2})
		for range i % 3 {
			tr.note(x.falseNote(tr))
		}
		rise := x.one(-3, -2, 1, 2, 3)
		w := must(archive.WeekOf(tr.base, tr.register(), tr.week))
		a := must(atlas.Build(tr.base, tr.register(), tr.week, rise))
		script := scriptOf(tr.base, tr.notes)
		var want []string
		ask := func(answer string, word string, args ...int) {
			script += lineOf(word, args...)
			want = append(want, answer)
		}
		told := func(word string, e api.Errno, numbers ...int) string {
			if e != api.OK {
				return answerOf("error", int(e))
			}
			return answerOf(word, numbers...)
		}
		ask(told("atlas", api.OK, int(a.Trouble), len(a.Shown)), "atlas", 1, tr.week, rise)
		ask("faults", "check")
		whole, e := weeks.Whole(w)
		ask(told("whole", e, map[bool]int{true: 1}[whole]), "whole", 1, tr.week)
		core, e := weeks.Core(w)
		ask(told("core", e, claimNumbers(core)...), "core", 1, tr.week)
		drops, e := weeks.Drops(w)
		sizes := []int{len(drops)}
		for _, l := range drops {
			sizes = append(sizes, len(l))
		}
		ask(told("drops", e, sizes...), "drops", 1, tr.week)
		fixed, e := atlas.Corrected(a)
		ask(told("corrected", e, claimNumbers(fixed)...), "corrected")
		misfiled, e := weeks.Misfiled(w)
		ask(told("misfiled", e, misfiled...), "misfiled", 1, tr.week)
		for k, f := range w.Sheets {
			tick := x.IntN(tr.base.Ticks)
			homes, e := weeks.Homes(w, k)
			ask(told("homes", e, homes...), "homes", 1, tr.week, f.Station)
			level, e := weeks.Level(w, k, tick)
			ask(told("levels", e, spanNumbers(level)...), "levels", 1, tr.week, f.Station, tick)
			ask(told("known", e, spanNumbers(level)...), "known", 1, 10000, 10000, tr.week, f.Station, tick)
			front, e := weeks.Front(w, k, tick, rise)
			ask(told("front", e, front), "front", 1, tr.week, f.Station, tick, rise)
			ends, e := atlas.SpanOf(a, f.Station, tick)
			ask(told("span", e, ends.Lo, ends.Hi), "span", f.Station, tick)
			sea, e := atlas.Sea(a, f.Station)
			ask(told("sea", e, sea.Lo, sea.Hi), "sea", f.Station)
		}
		got := runAll(script)
		expect(t, got[len(got)-len(want):], api.OK, want)
	}
}

func claimNumbers(l []api.Claim) []int {
	var all []int
	for _, c := range l {
		all = append(all, c.Kind, c.Sheet, c.Index)
	}
	return all
}

func spanNumbers(l []api.Span) []int {
	var all []int
	for _, s := range l {
		all = append(all, s.Lo, s.Hi)
	}
	return all
}

// script returns random lines, most of which are commands with numbers that matter.
func (d dice) script() []string {
	tr := d.truth(1, size{stations: 2, ticks: 3, marks: 1, reads: 1})
	lines := strings.SplitAfter(scriptOf(tr.base, tr.notes), "\n")
	id := tr.base.Stations[0].ID
	words := []string{"", "x", "begin 1", "settle 1"}
	for range 5 {
		words = append(words, answerOf("levels", 1, 1, id, 1), answerOf("known", 1, 99, 99, 1, id, 1), answerOf("homes", 1, 1, id),
			answerOf("atlas", 1, 1, 2), answerOf("span", id, 1), answerOf("sea", id))
	}
	for word, count := range counts {
		for range 3 {
			args := make([]int, count)
			for i := range args {
				args[i] = d.one(1, 1, 1, 0, 2, id)
			}
			words = append(words, answerOf(word, args...))
		}
	}
	slices.Sort(words)
	// In most scripts what is ahead of begin stays as it is.
	first := d.one(0, 6, 6)
	for range 40 {
		at := d.from(first, len(lines)-1)
		lines = slices.Insert(lines, at, words[d.IntN(len(words))]+"\n")
	}
	return lines
}

// TestPrefixes is P10.8: the first answers do not depend on what comes behind.
func TestPrefixes(t *testing.T) {
	x := newDice(25)
	answers := map[string]int{}
	for range 400 {
		lines := x.script()
		all := atlas.Run([]byte(strings.Join(lines, "")))
		for range 6 {
			n := x.from(0, len(lines))
			part := atlas.Run([]byte(strings.Join(lines[:n], "")))
			if !bytes.HasPrefix(all, part) || bytes.Count(part, []byte("\n")) < min(n, len(lines)-1) {
				t.Fatal(lines, n)
			}
		}
		for line := range strings.Lines(string(all)) {
			word, _, _ := strings.Cut(strings.TrimSpace(line), " ")
			answers[word]++
		}
		// The same script prints the same each time.
		if !bytes.Equal(all, atlas.Run([]byte(strings.Join(lines, "")))) {
			t.Fatal(lines)
		}
	}
	for _, word := range []string{"ok", "error", "levels", "known", "whole", "homes", "conflicts", "atlas", "faults", "span", "sea"} {
		enough(t, word, answers[word], 10)
	}
}

// spoilAll changes each element of all slices of a value, and of what is behind their ends.
func spoilAll(v reflect.Value) {
	switch v.Kind() {
	case reflect.Struct:
		for i := range v.NumField() {
			spoilAll(v.Field(i))
		}
	case reflect.Slice:
		for i := range v.Len() {
			spoilAll(v.Index(i))
		}
		v = v.Slice(0, v.Cap())
		for i := range v.Len() {
			v.Index(i).SetZero()
		}
	}
}

// TestOwnMemory changes arguments and results behind calls: neither changes the other, and no two parts of one result share memory.
func TestOwnMemory(t *testing.T) {
	x := newDice(26)
	tr := x.truth(2, usual)
	tr.note(x.falseNote(tr))
	original := copied(must(atlas.Build(tr.base, tr.register(), 2, 3)))
	for name, call := range map[string]func(x api.Atlas) any{
		"Standing":  func(x api.Atlas) any { w, _ := atlas.Standing(x); return &w },
		"LevelsOf":  func(x api.Atlas) any { l, _ := atlas.LevelsOf(x, x.Week.Sheets[0].Station, 1); return &l },
		"Least":     func(x api.Atlas) any { l, _ := atlas.CoursesOf(x, x.Week.Sheets[0].Station, 1, false); return &l },
		"Most":      func(x api.Atlas) any { l, _ := atlas.CoursesOf(x, x.Week.Sheets[0].Station, 1, true); return &l },
		"Corrected": func(x api.Atlas) any { l, _ := atlas.Corrected(x); return &l },
		"Encode":    func(x api.Atlas) any { l, _ := atlas.Encode(x); return &l },
		"Compare":   func(x api.Atlas) any { l, _ := atlas.Compare(x, original); return &l },
		"Check":     func(x api.Atlas) any { l := atlas.Check(x); return &l },
	} {
		for _, good := range []api.Atlas{original, plain(), clashing()} {
			a := copied(good)
			result := call(a)
			before := fmt.Sprint(reflect.ValueOf(result).Elem())
			spoilAll(reflect.ValueOf(&a).Elem())
			if fmt.Sprint(reflect.ValueOf(result).Elem()) != before {
				t.Error(name, "keeps its argument")
			}
			a = copied(good)
			spoilAll(reflect.ValueOf(call(a)).Elem())
			if !same(a, good) {
				t.Error(name, "returns what is its argument's")
			}
		}
	}
	// What was built shares nothing with what it was built of.
	b, r := tr.base, tr.register()
	a := must(atlas.Build(b, r, 2, 3))
	before := fmt.Sprint(a)
	spoilAll(reflect.ValueOf(&b).Elem())
	spoilAll(reflect.ValueOf(&r).Elem())
	if fmt.Sprint(a) != before {
		t.Error("Build keeps its arguments")
	}
	// Each number of an atlas has a place of its own.
	checkPlaces(t, reflect.ValueOf(a), map[uintptr]bool{})
	checkPlaces(t, reflect.ValueOf(copied(clashing())), map[uintptr]bool{})
}

// checkPlaces checks that no element of a slice lies where another one lies.
func checkPlaces(t *testing.T, v reflect.Value, seen map[uintptr]bool) {
	t.Helper()
	switch v.Kind() {
	case reflect.Struct:
		for i := range v.NumField() {
			checkPlaces(t, v.Field(i), seen)
		}
	case reflect.Slice:
		whole := v.Slice(0, v.Cap())
		for i := range whole.Len() {
			at := whole.Index(i).Addr().Pointer()
			if seen[at] {
				t.Fatal("two lists share memory")
			}
			seen[at] = true
		}
		for i := range v.Len() {
			checkPlaces(t, v.Index(i), seen)
		}
	}
}
