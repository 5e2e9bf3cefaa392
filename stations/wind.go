package stations

import (
	"sort"

	"aneroid/api"
)

// maxEach is the bound of Each, which package api does not name.
const maxEach = 10000

// Distance returns the distance of two stations.
func Distance(a, b api.Station) (int, api.Errno) {
	if e := checkEach(a, b); e != api.OK {
		return 0, e
	}
	return distance(a, b), api.OK
}

// CheckWind returns OK if a wind is valid.
func CheckWind(w api.Wind) api.Errno {
	if !between(w.Fixed, 0, api.MaxLevel) || !between(w.Each, 0, maxEach) {
		return api.ErrArg
	}
	return api.OK
}

// Within returns by how much sea levels may differ.
func Within(w api.Wind, a, b api.Station) (int, api.Errno) {
	if e := checkEach(a, b); e != api.OK {
		return 0, e
	}
	if e := CheckWind(w); e != api.OK {
		return 0, e
	}
	return bound(w, a, b), api.OK
}

// Tight returns by how much any two may differ by way of others.
func Tight(w api.Wind, l []api.Station) ([][]int, api.Errno) {
	if e := check(w, l, true); e != api.OK {
		return nil, e
	}
	r := routesOf(w, l)
	rows := make([][]int, len(l))
	for i := range rows {
		rows[i] = make([]int, len(l))
		for k := range rows[i] {
			rows[i][k] = r.tight(i, k)
		}
	}
	return rows, api.OK
}

// Way returns the stations by way of which two are tightest.
func Way(w api.Wind, l []api.Station, a, b int) ([]int, api.Errno) {
	if e := check(w, l, between(a, 0, len(l)-1) && between(b, 0, len(l)-1)); e != api.OK {
		return nil, e
	}
	var way []int
	for i := range routesOf(w, l).way(a, b) {
		way = append(way, i)
	}
	return way, api.OK
}

// Speed returns the speed of a front.
func Speed(a, b api.Station, ticks int) (api.Ratio, api.Errno) {
	if e := checkEach(a, b); e != api.OK {
		return api.Ratio{}, e
	}
	if !between(ticks, 1, api.MaxTicks) {
		return api.Ratio{}, api.ErrArg
	}
	d := distance(a, b)
	by := divisor(ticks, d)
	return api.Ratio{Num: d / by, Den: ticks / by}, api.OK
}

// check returns the error of a list of stations, or ErrArg, unless the wind is valid and the other arguments are right.
func check(w api.Wind, l []api.Station, right bool) api.Errno {
	if e, _ := Check(l); e != api.OK {
		return e
	}
	if CheckWind(w) != api.OK || !right {
		return api.ErrArg
	}
	return api.OK
}

// distance returns the distance of two valid stations. Whole numbers alone are used, as a root in floats may be rounded to the wrong side.
func distance(a, b api.Station) int {
	x, y := a.X-b.X, a.Y-b.Y
	return sort.Search(2*api.MaxMap, func(d int) bool { return d*d >= x*x+y*y })
}

// bound returns the bound of two valid stations.
func bound(w api.Wind, a, b api.Station) int {
	if a.ID == b.ID {
		return 0
	}
	return w.Fixed + w.Each*distance(a, b)/100
}

// divisor returns the greatest common divisor of a number above 0 and one that is not negative.
func divisor(a, b int) int {
	for b > 0 {
		a, b = b, a%b
	}
	return a
}
