package atlas

import (
	"aneroid/api"
	"aneroid/archive"
	"aneroid/weeks"
)

// A question is what is asked about a week, with further numbers.
type question func(w api.Week, a []int) ([]int, api.Errno)

// questions are the commands that ask about what a clerk knows.
func (k *console) questions() map[string]order {
	return map[string]order{
		"levels":    {args: 4, says: "levels", does: k.asking(ofSheet(levels))},
		"known":     {args: 6, says: "known", does: k.known},
		"front":     {args: 5, says: "front", does: k.asking(ofSheet(front))},
		"whole":     {args: 2, says: "whole", does: k.asking(whole)},
		"core":      {args: 2, says: "core", does: k.asking(core)},
		"drops":     {args: 2, says: "drops", does: k.asking(drops)},
		"homes":     {args: 3, says: "homes", does: k.asking(ofSheet(homes))},
		"misfiled":  {args: 2, says: "misfiled", does: k.asking(misfiled)},
		"conflicts": {args: 1, says: "conflicts", does: k.conflicts},
		"atlas":     {args: 3, says: "atlas", does: k.build},
	}
}

// register returns the register of a clerk.
func (k *console) register(clerk int) (api.Register, api.Errno) {
	notes, e := k.world.Notes(clerk)
	if e != api.OK {
		return api.Register{}, e
	}
	return archive.Fold(k.base, notes)
}

// about returns the answer to a question about a week of a register.
func (k *console) about(r api.Register, week int, ask question, a []int) ([]int, api.Errno) {
	w, e := archive.WeekOf(k.base, r, week)
	if e != api.OK {
		return nil, e
	}
	return ask(w, a)
}

// asking returns what answers a question of which the clerk and the week are the first numbers.
func (k *console) asking(ask question) func(a []int) ([]int, api.Errno) {
	return func(a []int) ([]int, api.Errno) {
		r, e := k.register(a[0])
		if e != api.OK {
			return nil, e
		}
		return k.about(r, a[1], ask, a[2:])
	}
}

// ofSheet returns the question about the sheet of a station, which is the next number.
func ofSheet(ask func(w api.Week, sheet int, a []int) ([]int, api.Errno)) question {
	return func(w api.Week, a []int) ([]int, api.Errno) {
		i := sheetOf(w, a[0])
		if i < 0 {
			return nil, api.ErrNone
		}
		return ask(w, i, a[1:])
	}
}

func levels(w api.Week, sheet int, a []int) ([]int, api.Errno) {
	l, e := weeks.Level(w, sheet, a[0])
	return numbersOf(l, endsOf), e
}

func (k *console) known(a []int) ([]int, api.Errno) {
	notes, e := k.world.Notes(a[0])
	if e != api.OK {
		return nil, e
	}
	r, e := archive.AsOf(k.base, notes, a[1], a[2])
	if e != api.OK {
		return nil, e
	}
	return k.about(r, a[3], ofSheet(levels), a[4:])
}

func front(w api.Week, sheet int, a []int) ([]int, api.Errno) {
	chance, e := weeks.Front(w, sheet, a[0], a[1])
	return []int{chance}, e
}

func whole(w api.Week, _ []int) ([]int, api.Errno) {
	ok, e := weeks.Whole(w)
	if ok {
		return []int{1}, e
	}
	return []int{0}, e
}

func core(w api.Week, _ []int) ([]int, api.Errno) {
	l, e := weeks.Core(w)
	return numbersOf(l, partsOf), e
}

func drops(w api.Week, _ []int) ([]int, api.Errno) {
	l, e := weeks.Drops(w)
	sizes := numbersOf(l, func(set []api.Claim) []int { return []int{len(set)} })
	return append([]int{len(l)}, sizes...), e
}

func homes(w api.Week, sheet int, _ []int) ([]int, api.Errno) { return weeks.Homes(w, sheet) }

func misfiled(w api.Week, _ []int) ([]int, api.Errno) { return weeks.Misfiled(w) }

func (k *console) conflicts(a []int) ([]int, api.Errno) {
	r, e := k.register(a[0])
	return numbersOf(r.Conflicts, func(n api.Name) []int { return []int{n.Clerk, n.Num} }), e
}

func (k *console) build(a []int) ([]int, api.Errno) {
	r, e := k.register(a[0])
	if e != api.OK {
		return nil, e
	}
	x, e := Build(k.base, r, a[1], a[2])
	if e != api.OK {
		return nil, e
	}
	k.atlas = &x
	if n := len(k.shelf); n == 0 || x.Week.Week > k.shelf[n-1].Week.Week {
		k.shelf = append(k.shelf, x)
	}
	return []int{int(x.Trouble), len(x.Shown)}, api.OK
}

// numbersOf returns the numbers of all elements of a list.
func numbersOf[E any](l []E, of func(E) []int) []int {
	var all []int
	for _, x := range l {
		all = append(all, of(x)...)
	}
	return all
}

func endsOf(s api.Span) []int { return []int{s.Lo, s.Hi} }

func partsOf(c api.Claim) []int { return []int{c.Kind, c.Sheet, c.Index} }
