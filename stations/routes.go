package stations

import (
	"iter"

	"aneroid/api"
)

// perTenth is what a tenth of the length of a way costs, if each step costs 1 more. Since a best way has fewer steps than this, ways are compared by their length, and only then by their steps.
const perTenth = api.MaxStations

// A grid has a number for each pair of stations.
type grid [api.MaxStations][api.MaxStations]int

// A region is valid stations and a valid wind.
type region struct {
	wind     api.Wind
	stations []api.Station
}

// step returns what it costs to go from a station straight to another one.
func (r *region) step(from, to int) int {
	return perTenth*bound(r.wind, r.stations[from], r.stations[to]) + 1
}

// cheapest returns what the best ways cost between all stations.
func (r *region) cheapest() grid {
	var costs grid
	for i := range r.stations {
		for k := range i {
			costs[i][k] = r.step(i, k)
			costs[k][i] = costs[i][k]
		}
	}
	for via := range r.stations {
		for i := range r.stations {
			for k := range r.stations {
				costs[i][k] = min(costs[i][k], costs[i][via]+costs[via][k])
			}
		}
	}
	return costs
}

// routes are a region with the costs of its best ways.
type routes struct {
	region
	costs grid
}

func routesOf(w api.Wind, l []api.Station) *routes {
	r := &routes{region: region{w, l}}
	r.costs = r.cheapest()
	return r
}

// tight returns the tight bound of two stations.
func (r *routes) tight(a, b int) int { return r.costs[a][b] / perTenth }

// way yields the stations of the first one of the best ways from a station to another one.
func (r *routes) way(from, to int) iter.Seq[int] {
	return func(yield func(int) bool) {
		at := from
		for yield(at) && at != to {
			at = r.next(at, to)
		}
	}
}

// next returns the first station between two of them that can follow the first one on a best way, or the end, if there is none: a way straight on that is as good has fewer steps.
func (r *routes) next(at, to int) int {
	for i := range r.stations {
		if i != at && i != to && r.step(at, i)+r.costs[i][to] == r.costs[at][to] {
			return i
		}
	}
	return to
}
