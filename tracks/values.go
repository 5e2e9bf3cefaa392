package tracks

import (
	"iter"
	"slices"

	"aneroid/api"
)

// ends returns, for each stage and node of a view, the values with which this place is the first one of some end.
func ends(v view) [][][]api.Span {
	sets := make([][][]api.Span, v.size())
	last := v.size() - 1
	for node := range v.next(last) {
		all := slices.Clone(v.allowed(seat{last, node}))
		sets[last] = append(sets[last], all)
	}
	for stage := last - 1; stage >= 0; stage-- {
		sets[stage] = starts(v, stage, sets[stage+1])
	}
	return sets
}

// starts returns, for each node of a stage, its allowed values from which steps lead into the sets of the next stage.
func starts(v view, stage int, sets [][]api.Span) [][]api.Span {
	var found [][]api.Span
	for node, edges := range v.next(stage) {
		allowed := v.allowed(seat{stage, node})
		found = append(found, meet(allowed, grown(sources(allowed, edges, sets))))
	}
	return found
}

// sources yields what edges lead into sets from, as far as it is not beyond what is allowed.
func sources(allowed []api.Span, edges []api.Edge, sets [][]api.Span) iter.Seq[api.Span] {
	return func(yield func(api.Span) bool) {
		if len(allowed) == 0 {
			return
		}
		hull := ofEnds(allowed)
		for _, e := range edges {
			from := edge(e).from
			for _, s := range sets[e.To] {
				if s := common(from(s), hull); s.Lo <= s.Hi && !yield(s) {
					return
				}
			}
		}
	}
}

// An edge tells which values there can be at one of its ends, by those at the other one.
type edge api.Edge

// from returns all values from which the edge leads into a span.
func (e edge) from(s api.Span) api.Span {
	return api.Span{Lo: s.Lo - e.Change.Hi, Hi: s.Hi - e.Change.Lo}
}

// to returns all values to which the edge leads from a span.
func (e edge) to(s api.Span) api.Span {
	return api.Span{Lo: s.Lo + e.Change.Lo, Hi: s.Hi + e.Change.Hi}
}

// ofEnds returns the least and the greatest number of a set that is not empty.
func ofEnds(set []api.Span) api.Span { return api.Span{Lo: set[0].Lo, Hi: set[len(set)-1].Hi} }

// beginnings returns, for each stage and node of a track, the values with which this place is the last one of some beginning.
func beginnings(t api.Track) [][][]api.Span {
	sets := ends(turned(t))
	slices.Reverse(sets)
	return sets
}

// Forward returns the values that courses from the first stage reach.
func Forward(t api.Track) ([][][]api.Span, api.Errno) {
	if Check(t) != api.OK {
		return nil, api.ErrTrack
	}
	return beginnings(t), api.OK
}

// Backward returns the values from which courses reach the last stage.
func Backward(t api.Track) ([][][]api.Span, api.Errno) {
	if Check(t) != api.OK {
		return nil, api.ErrTrack
	}
	return ends(ahead(t)), api.OK
}

// All returns all values of all nodes.
func All(t api.Track) ([][][]api.Span, api.Errno) {
	if Check(t) != api.OK {
		return nil, api.ErrTrack
	}
	return all(t), api.OK
}

func all(t api.Track) [][][]api.Span {
	sets := ends(ahead(t))
	for i, stage := range beginnings(t) {
		for node, set := range stage {
			sets[i][node] = meet(sets[i][node], set)
		}
	}
	return sets
}

// Values returns all values of a stage.
func Values(t api.Track, stage int) ([]api.Span, api.Errno) {
	if Check(t) != api.OK {
		return nil, api.ErrTrack
	}
	if !hasStage(t, stage) {
		return nil, api.ErrArg
	}
	values := united(all(t)[stage])
	// Each course has a value at each stage.
	if len(values) == 0 {
		return nil, api.ErrTight
	}
	return values, api.OK
}

// Span returns the least and the greatest value of a stage.
func Span(t api.Track, stage int) (api.Span, api.Errno) {
	values, e := Values(t, stage)
	if e != api.OK {
		return api.Span{}, e
	}
	return ofEnds(values), api.OK
}
