package tracks

import (
	"iter"

	"aneroid/api"
)

// Course returns the first course.
func Course(t api.Track) ([]api.At, api.Errno) {
	if Check(t) != api.OK {
		return nil, api.ErrTrack
	}
	course, ok := first(ahead(t))
	if !ok {
		return nil, api.ErrTight
	}
	return course, api.OK
}

// With returns the first course with a value.
func With(t api.Track, stage int, at api.At) ([]api.At, api.Errno) {
	if Check(t) != api.OK {
		return nil, api.ErrTrack
	}
	if !hasStage(t, stage) || !between(at.Node, 0, len(t.Stages[stage])-1) {
		return nil, api.ErrArg
	}
	course, ok := first(ahead(t))
	if !ok {
		return nil, api.ErrTight
	}
	if course[stage] == at {
		return course, api.OK
	}
	course, ok = first(through(t, stage, at))
	if !ok {
		return nil, api.ErrNone
	}
	return course, api.OK
}

// through returns a track in which a place is the only one of its stage, or in which none is, if its value is not allowed.
func through(t api.Track, stage int, at api.At) view {
	v := limited{ahead(t), map[seat][]api.Span{}}
	for node := range t.Stages[stage] {
		v.left[seat{stage, node}] = nil
	}
	s := seat{stage, at.Node}
	v.left[s] = meet(v.view.allowed(s), single(at.Value))
	return v
}

// single returns the set of one number.
func single(n int) []api.Span { return []api.Span{{Lo: n, Hi: n}} }

// first returns the first course of a view, or false if there is none.
func first(v view) ([]api.At, bool) {
	sets := ends(v)
	// Each place that is taken is the first one of some end: the search never has to go back.
	place, ok := least(beginning(sets[0]))
	if !ok {
		return nil, false
	}
	course := []api.At{place}
	for stage, behind := range sets[1:] {
		edges := v.next(stage)[place.Node]
		place, _ = least(following(place, edges, behind))
		course = append(course, place)
	}
	return course, true
}

// beginning yields, for each node with a set that is not empty, the place with its least value.
func beginning(sets [][]api.Span) iter.Seq[api.At] {
	return func(yield func(api.At) bool) {
		for node, set := range sets {
			if len(set) > 0 && !yield(api.At{Node: node, Value: set[0].Lo}) {
				return
			}
		}
	}
}

// following yields, for each edge by which a step leads from a place into the sets of the next stage, the place with the least value to which it leads.
func following(place api.At, edges []api.Edge, sets [][]api.Span) iter.Seq[api.At] {
	return func(yield func(api.At) bool) {
	search:
		for _, e := range edges {
			reached := edge(e).to(api.Span{Lo: place.Value, Hi: place.Value})
			for _, s := range sets[e.To] {
				s := common(s, reached)
				if s.Lo > s.Hi {
					continue
				}
				if !yield(api.At{Node: e.To, Value: s.Lo}) {
					return
				}
				continue search
			}
		}
	}
}

// least returns the first one of places in order, or false if there is none.
func least(places iter.Seq[api.At]) (api.At, bool) {
	var found api.At
	ok := false
	for p := range places {
		if !ok || p.Node < found.Node || p.Node == found.Node && p.Value < found.Value {
			found, ok = p, true
		}
	}
	return found, ok
}
