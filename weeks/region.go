package weeks

import (
	"slices"
	"sort"

	"aneroid/api"
	"aneroid/stations"
)

// A region is a week that was opened, with what its sheets tell of the term: the levels that each of them may have by itself.
type region struct {
	*opened
	neighbours
	terms [][]api.Span
}

// neighbours are by how much the sea levels of sheets may differ, and the heights of their stations.
type neighbours struct {
	tight   [][]int
	heights []api.Span
}

func neighboursOf(o *opened) neighbours {
	var n neighbours
	n.tight, _ = stations.Tight(o.Base.Wind, o.places())
	for _, s := range o.places() {
		heights, _ := stations.Height(s, o.Week.Week)
		n.heights = append(n.heights, heights)
	}
	return n
}

// seas returns the levels at the sea of a level of a sheet.
func (n *neighbours) seas(sheet, level int) api.Span {
	s, _ := stations.Seas(level, n.heights[sheet])
	return s
}

// regionOf returns the region of the levels that ask tells for each sheet, or false if there are no courses of it.
func (o *opened) regionOf(n neighbours, ask func(sheet int) []api.Span) (region, bool) {
	r := region{opened: o, neighbours: n}
	whole := true
asking:
	for i := range o.charts {
		terms := ask(i)
		if len(terms) == 0 {
			whole = false
			break asking
		}
		r.terms = append(r.terms, terms)
	}
	if whole {
		_, whole = r.least()
	}
	return r, whole
}

// region returns the region of all that is noted, or false if there are no courses of it.
func (o *opened) region() (region, bool) {
	return o.regionOf(neighboursOf(o), func(sheet int) []api.Span { return o.own(sheet).terms() })
}

// openRegion returns the region of a week. It returns the errors that come ahead of those of a rule; right says whether the arguments of a function are right, beside the indices of sheets.
func openRegion(w api.Week, right bool, sheets ...int) (region, api.Errno) {
	for _, sheet := range sheets {
		right = right && between(sheet, 0, len(w.Sheets)-1)
	}
	o, e := openSheets(w, right)
	if e != api.OK {
		return region{}, e
	}
	r, ok := o.region()
	if !ok {
		return region{}, api.ErrClash
	}
	return r, api.OK
}

// with returns the region in which a sheet may have other levels.
func (r region) with(sheet int, terms []api.Span) region {
	r.terms = slices.Clone(r.terms)
	r.terms[sheet] = terms
	return r
}

// A tide has a level for each sheet of a region, and its levels at the sea. It only rises, and no further than to the least levels that can be at one time.
type tide struct {
	region
	levels []int
	sea    []api.Span
}

// least returns the least levels that can be at one time, or false if there are none. (Of two such lists the lesser levels can be at one time as well: so there are least ones.)
func (r region) least() (*tide, bool) {
	t := &tide{r, make([]int, len(r.terms)), make([]api.Span, len(r.terms))}
	for i := range r.terms {
		if !t.lift(i, 0) {
			return nil, false
		}
	}
	for i := range r.terms {
		if !t.carry(i) {
			return nil, false
		}
	}
	return t, true
}

// lift lifts a sheet to the first one of its levels from a least one on, or returns false if there is none.
func (t *tide) lift(sheet, least int) bool {
	terms := t.terms[sheet]
	i := sort.Search(len(terms), func(i int) bool { return terms[i].Hi >= least })
	if i == len(terms) {
		return false
	}
	t.levels[sheet] = max(least, terms[i].Lo)
	t.sea[sheet] = t.seas(sheet, t.levels[sheet])
	return true
}

// carry lifts the other sheets as far as a sheet asks for, and the others of these likewise. It returns false if one of them has no level left.
func (t *tide) carry(sheet int) bool {
	waiting := []int{sheet}
	for len(waiting) > 0 {
		by := waiting[len(waiting)-1]
		waiting = waiting[:len(waiting)-1]
		for i := range t.levels {
			lifted := false
			for t.sea[i].Hi < t.sea[by].Lo-t.tight[by][i] {
				if !t.lift(i, t.levels[i]+1) {
					return false
				}
				lifted = true
			}
			if lifted {
				waiting = append(waiting, i)
			}
		}
	}
	return true
}

// possible returns the levels of a sheet at the term in all courses of the region. The least levels with at least some level of the sheet have this level itself, or it is in no courses.
func (r region) possible(sheet int) []api.Span {
	var p pile
	t, ok := r.least()
	for ok {
		level := t.levels[sheet]
		p.add(single(level))
		ok = t.lift(sheet, level+1) && t.carry(sheet)
	}
	return p.set()
}

// among returns the inquiry of a sheet for its courses in courses of the region.
func (r region) among(sheet int) inquiry {
	q := r.own(sheet)
	return q.at(q.term, r.possible(sheet))
}

// Whole reports whether there are courses of all sheets.
func Whole(w api.Week) (bool, api.Errno) {
	_, e := openRegion(w, true)
	if e == api.ErrClash {
		return false, api.OK
	}
	return e == api.OK, e
}

// Terms returns the levels of all sheets at the term.
func Terms(w api.Week) ([][]api.Span, api.Errno) {
	r, e := openRegion(w, true)
	if e != api.OK {
		return nil, e
	}
	terms := make([][]api.Span, len(r.terms))
	for i := range terms {
		terms[i] = r.possible(i)
	}
	return terms, api.OK
}

// Levels returns the levels of a sheet at each tick.
func Levels(w api.Week, sheet int) ([][]api.Span, api.Errno) {
	r, e := openRegion(w, true, sheet)
	if e != api.OK {
		return nil, e
	}
	return r.among(sheet).levels(), api.OK
}

// Level returns the levels of a sheet at a tick.
func Level(w api.Week, sheet, tick int) ([]api.Span, api.Errno) {
	r, e := openRegion(w, between(tick, 0, w.Base.Ticks), sheet)
	if e != api.OK {
		return nil, e
	}
	return r.among(sheet).levels()[tick], api.OK
}

// Columns returns the ticks of each column of a sheet.
func Columns(w api.Week, sheet int) ([][]api.Span, api.Errno) {
	r, e := openRegion(w, true, sheet)
	if e != api.OK {
		return nil, e
	}
	return r.among(sheet).columns(), api.OK
}
