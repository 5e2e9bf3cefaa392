package atlas

import (
	"slices"

	"aneroid/api"
	"aneroid/archive"
	"aneroid/weeks"
)

// An audit is an atlas that is checked, with what a step found out for those behind it.
type audit struct {
	api.Atlas
	slip     slip
	standing api.Week // without anything, if there is none
}

// Check returns what is wrong with an atlas.
func Check(x api.Atlas) []api.Fault {
	a := &audit{Atlas: x}
	steps := []func() []api.Fault{a.checkBase, a.checkWeek, a.checkSlip, a.checkShown, a.checkBounds}
	for _, step := range steps {
		if faults := step(); len(faults) > 0 {
			return faults
		}
	}
	return nil
}

// unless returns a fault with the index 0, unless all is right.
func unless(right bool, kind int) []api.Fault {
	if right {
		return nil
	}
	return []api.Fault{{Kind: kind}}
}

// wrong returns the faults at the indices of what is not right.
func wrong(right []bool, kind int) []api.Fault {
	var faults []api.Fault
	for i, ok := range right {
		if !ok {
			faults = append(faults, api.Fault{Kind: kind, Index: i})
		}
	}
	return faults
}

func (a *audit) checkBase() []api.Fault {
	isTrouble := a.Trouble == api.OK || a.Trouble == api.ErrClash
	return unless(archive.CheckBase(a.Base) == api.OK && isRise(a.Rise) && isTrouble, api.FaultBase)
}

func (a *audit) checkWeek() []api.Fault {
	if weeks.Check(a.Week) != api.OK || !isBasedOn(a.Week.Base, a.Base) {
		return unless(false, api.FaultWeek)
	}
	s, e := slipOf(a.Week)
	a.slip = s
	return unless(e == api.OK, api.FaultWeek)
}

// isBasedOn reports whether the base of a week is another base, but for further heights.
func isBasedOn(b, other api.Base) bool {
	return b.Wind == other.Wind && b.Term == other.Term && b.Ticks == other.Ticks && b.Clerks == other.Clerks &&
		slices.EqualFunc(b.Stations, other.Stations, func(s, old api.Station) bool {
			isLost := func(h api.Height) bool { return !slices.Contains(s.Heights, h) }
			return s.ID == old.ID && s.X == old.X && s.Y == old.Y && !slices.ContainsFunc(old.Heights, isLost)
		})
}

func (a *audit) checkSlip() []api.Fault {
	return unless(a.slip.equals(slip{a.Trouble, a.Core, a.Drops}), api.FaultSlip)
}

func (a *audit) checkShown() []api.Fault {
	// As the slip is right, there is an error only if there is no standing week, and then there are no sheets.
	a.standing, _ = standing(a.Atlas)
	if count := len(a.Shown); count != len(a.standing.Sheets) {
		return []api.Fault{{Kind: api.FaultShown, Index: count}}
	}
	right := make([]bool, len(a.Shown))
	for i, s := range tell(a.standing, a.Rise) {
		right[i] = sameLists(s.Levels, a.Shown[i].Levels) && slices.Equal(s.Fronts, a.Shown[i].Fronts)
	}
	return wrong(right, api.FaultShown)
}

func (a *audit) checkBounds() []api.Fault {
	right := make([]bool, len(a.Shown))
	each(len(right), func(i int) {
		s := a.Shown[i]
		right[i] = a.reaches(s.Least, i, least(s.Levels)) && a.reaches(s.Most, i, greatest(s.Levels))
	})
	return wrong(right, api.FaultBound)
}

// reaches reports whether for each tick there are courses of the region in which a sheet has a level there.
func (a *audit) reaches(l [][]api.Course, sheet int, levels []int) bool {
	if len(l) != len(levels) {
		return false
	}
	for tick, courses := range l {
		if weeks.Keeps(a.standing, courses) != api.OK || courses[sheet].Levels[tick] != levels[tick] {
			return false
		}
	}
	return true
}
