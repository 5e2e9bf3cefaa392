package stations

import "aneroid/api"

// Keeps reports whether levels of all stations can be at one time.
func Keeps(w api.Wind, l []api.Station, week int, levels []int) (bool, api.Errno) {
	c, e := coastOf(w, l, week, levels)
	if e != api.OK {
		return false, e
	}
	_, ok := c.raised()
	return ok, api.OK
}

// Seaside returns sea levels with which they can.
func Seaside(w api.Wind, l []api.Station, week int, levels []int) ([]int, api.Errno) {
	c, e := coastOf(w, l, week, levels)
	if e != api.OK {
		return nil, e
	}
	sea, ok := c.raised()
	if !ok {
		return nil, api.ErrNone
	}
	return sea, api.OK
}

// Apart returns two stations whose levels cannot be at one time.
func Apart(w api.Wind, l []api.Station, week int, levels []int) ([]int, api.Errno) {
	c, e := coastOf(w, l, week, levels)
	if e != api.OK {
		return nil, e
	}
	for i := range c.seas {
		for k := i + 1; k < len(c.seas); k++ {
			if c.areApart(i, k) {
				return []int{i, k}, api.OK
			}
		}
	}
	return nil, api.ErrNone
}

// A coast is what each station's level may be at the sea, and the routes between them.
type coast struct {
	*routes
	seas []api.Span
}

func coastOf(w api.Wind, l []api.Station, week int, levels []int) (coast, api.Errno) {
	right := isWeek(week) && len(levels) == len(l) && areLevels(levels)
	if e := check(w, l, right); e != api.OK {
		return coast{}, e
	}
	c := coast{routesOf(w, l), make([]api.Span, len(l))}
	for i, s := range l {
		c.seas[i] = seas(levels[i], heightsIn(s, week))
	}
	return c, api.OK
}

// raised returns the least sea levels of the levels, or false if there are none. Each station is raised once, as far as the least ends of the others ask for: what these are raised by adds nothing, since no tight bound is greater than two others by way of a third station.
func (c *coast) raised() ([]int, bool) {
	sea, ok := make([]int, len(c.seas)), true
	raise := func(i, k int) bool {
		sea[i] = max(sea[i], c.seas[k].Lo-c.tight(i, k))
		return sea[i] <= c.seas[i].Hi
	}
raising:
	for i := range c.seas {
		for k := range c.seas {
			if !raise(i, k) {
				sea, ok = nil, false
				break raising
			}
		}
	}
	return sea, ok
}

// areApart reports whether one of two stations is above the other one by more than the tight bound, whatever their sea levels are.
func (c *coast) areApart(a, b int) bool {
	return max(c.seas[a].Lo-c.seas[b].Hi, c.seas[b].Lo-c.seas[a].Hi) > c.tight(a, b)
}

func areLevels(l []int) bool {
	for _, n := range l {
		if !isLevel(n) {
			return false
		}
	}
	return true
}
