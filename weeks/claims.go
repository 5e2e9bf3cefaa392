package weeks

import (
	"iter"
	"math/bits"
	"slices"

	"aneroid/api"
)

func markOf(sheet, index int) api.Claim {
	return api.Claim{Kind: api.ClaimMark, Sheet: sheet, Index: index}
}

func readOf(index int) api.Claim { return api.Claim{Kind: api.ClaimRead, Index: index} }

// claims returns the claims of a week, in order.
func (o *opened) claims() []api.Claim {
	var l []api.Claim
	for i, f := range o.Sheets {
		for k := range f.Marks {
			l = append(l, markOf(i, k))
		}
	}
	for i := range o.Reads {
		l = append(l, readOf(i))
	}
	return l
}

// Claims returns all that can be corrected.
func Claims(w api.Week) ([]api.Claim, api.Errno) {
	o, e := open(w)
	if e != api.OK {
		return nil, e
	}
	return o.claims(), api.OK
}

// Without returns a week without some claims.
func Without(w api.Week, l []api.Claim) (api.Week, api.Errno) {
	o, e := open(w)
	if e != api.OK {
		return api.Week{}, e
	}
	if !isPart(l, o.claims()) {
		return api.Week{}, api.ErrArg
	}
	left := func(c api.Claim) bool { return !slices.Contains(l, c) }
	return o.copied(left), api.OK
}

// isPart reports whether a list is some elements of another one, in order.
func isPart[E comparable](l, all []E) bool {
	for _, x := range l {
		i := slices.Index(all, x)
		if i < 0 {
			return false
		}
		all = all[i+1:]
	}
	return true
}

// copied returns the week with the claims that are left, in memory of its own.
func (o *opened) copied(left filter) api.Week {
	w := o.Week
	w.Base.Stations = slices.Clone(w.Base.Stations)
	for i, s := range w.Base.Stations {
		w.Base.Stations[i].Heights = slices.Clone(s.Heights)
	}
	w.Sheets = slices.Clone(w.Sheets)
	for i, f := range w.Sheets {
		w.Sheets[i] = copiedSheet(f, func(mark int) bool { return left(markOf(i, mark)) })
	}
	w.Reads = some(w.Reads, func(read int) bool { return left(readOf(read)) })
	return w
}

// copiedSheet returns a sheet with the marks that are left, in memory of its own.
func copiedSheet(f api.Filed, left func(mark int) bool) api.Filed {
	if len(f.Names) == len(f.Marks) {
		f.Names = some(f.Names, left)
	} else {
		f.Names = slices.Clone(f.Names)
	}
	f.Marks = some(f.Marks, left)
	f.Sheet.Trace = slices.Clone(f.Sheet.Trace)
	f.Sheet.Blots = slices.Clone(f.Sheet.Blots)
	f.Sheet.Drum.Rates = slices.Clone(f.Sheet.Drum.Rates)
	f.Sheet.Drum.Stops = slices.Clone(f.Sheet.Drum.Stops)
	return f
}

// some returns a new list of the elements whose indices are left.
func some[E any](l []E, left func(index int) bool) []E {
	var found []E
	for i, x := range l {
		if left(i) {
			found = append(found, x)
		}
	}
	return found
}

// A claimSet has, for each of its claims, the bit of the claim's index.
type claimSet uint

func (s claimSet) has(index int) bool { return s>>index&1 == 1 }

func (s claimSet) size() int { return bits.OnesCount(uint(s)) }

func (s claimSet) isWithin(t claimSet) bool { return s&^t == 0 }

// sets yields all sets of some claims, in order.
func sets(count int) iter.Seq[claimSet] {
	return func(yield func(claimSet) bool) {
		var choose func(chosen claimSet, least, more int) bool
		choose = func(chosen claimSet, least, more int) bool {
			if more == 0 {
				return yield(chosen)
			}
			for i := least; i <= count-more; i++ {
				if !choose(chosen|1<<i, i+1, more-1) {
					return false
				}
			}
			return true
		}
		for size := range count + 1 {
			if !choose(0, 0, size) {
				return
			}
		}
	}
}

// A question is a sheet, and which of the claims that say something of it are taken into account.
type question struct {
	sheet int
	noted claimSet
}

// A search looks for sets of claims that contradict one another.
type search struct {
	*opened
	neighbours
	claims  []api.Claim
	about   []claimSet              // for each sheet the claims that say something of it
	answers map[question][]api.Span // the levels of sheets at the term
	wholes  []claimSet              // what does not contradict, nor does any set within it
	clashes []claimSet              // what contradicts, and so does any set around it
}

// openSearch returns the search in a week, with the errors that come ahead of those of a rule.
func openSearch(w api.Week) (*search, api.Errno) {
	o, e := openSheets(w, true)
	if e != api.OK {
		return nil, e
	}
	s := &search{opened: o, neighbours: neighboursOf(o), claims: o.claims(), answers: map[question][]api.Span{}}
	if len(s.claims) > api.MaxSmall {
		return nil, api.ErrLimit
	}
	for i := range o.charts {
		s.about = append(s.about, s.sayingOf(i))
	}
	return s, api.OK
}

// sayingOf returns the claims that say something of a sheet.
func (s *search) sayingOf(sheet int) claimSet {
	var about claimSet
	for i, c := range s.claims {
		mine := c.Kind == api.ClaimMark && c.Sheet == sheet
		if c.Kind == api.ClaimRead {
			mine = s.Reads[c.Index].Station == s.charts[sheet].Station
		}
		if mine {
			about |= 1 << i
		}
	}
	return about
}

func (s *search) all() claimSet { return 1<<len(s.claims) - 1 }

// list returns the claims of a set, in order.
func (s *search) list(l claimSet) []api.Claim { return some(s.claims, l.has) }

// isWhole reports whether the week with a set of claims alone has courses of the region. What is found is made as great, or as small, as it can be, as it answers for many sets then.
func (s *search) isWhole(noted claimSet) bool {
	if slices.ContainsFunc(s.wholes, noted.isWithin) {
		return true
	}
	if slices.ContainsFunc(s.clashes, func(c claimSet) bool { return c.isWithin(noted) }) {
		return false
	}
	whole := s.ask(noted)
	for i := range s.claims {
		if noted.has(i) != whole && s.ask(noted^1<<i) == whole {
			noted ^= 1 << i
		}
	}
	if whole {
		s.wholes = append(s.wholes, noted)
	} else {
		s.clashes = append(s.clashes, noted)
	}
	return whole
}

// ask asks the sheets whether the week with a set of claims alone has courses of the region; what they answered once is kept.
func (s *search) ask(noted claimSet) bool {
	_, ok := s.regionOf(s.neighbours, func(sheet int) []api.Span {
		q := question{sheet, noted & s.about[sheet]}
		terms, known := s.answers[q]
		if !known {
			isNoted := func(c api.Claim) bool { return noted.has(slices.Index(s.claims, c)) }
			terms = s.inquire(sheet, s.charts[sheet].Station, isNoted).terms()
			s.answers[q] = terms
		}
		return terms
	})
	return ok
}

// Core returns the first smallest set of claims that contradict one another.
func Core(w api.Week) ([]api.Claim, api.Errno) {
	s, e := openSearch(w)
	if e != api.OK {
		return nil, e
	}
	if s.isWhole(s.all()) {
		return nil, api.ErrNone
	}
	var core claimSet
	for core = range sets(len(s.claims)) {
		if !s.isWhole(core) {
			break
		}
	}
	return s.list(core), api.OK
}

// Drops returns all smallest sets of claims without which a week is whole.
func Drops(w api.Week) ([][]api.Claim, api.Errno) {
	s, e := openSearch(w)
	if e != api.OK {
		return nil, e
	}
	if !s.isWhole(0) {
		return nil, api.ErrClash
	}
	var drops [][]api.Claim
	for dropped := range sets(len(s.claims)) {
		if len(drops) > 0 && dropped.size() > len(drops[0]) {
			break
		}
		if s.isWhole(s.all() &^ dropped) {
			drops = append(drops, s.list(dropped))
		}
	}
	return drops, api.OK
}
