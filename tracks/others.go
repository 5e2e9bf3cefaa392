package tracks

import (
	"slices"

	"aneroid/api"
)

// Fix returns a track with limits.
func Fix(t api.Track, l []api.Limit) (api.Track, api.Errno) {
	if Check(t) != api.OK {
		return api.Track{}, api.ErrTrack
	}
	for _, limit := range l {
		if !hasStage(t, limit.Stage) || CheckSet(limit.Values) != api.OK {
			return api.Track{}, api.ErrArg
		}
	}
	fixed := clone(t)
	for _, limit := range l {
		for i, n := range fixed.Stages[limit.Stage] {
			fixed.Stages[limit.Stage][i].Allowed = meet(n.Allowed, limit.Values)
		}
	}
	return checked(fixed)
}

// Narrow returns the track with only possible values allowed.
func Narrow(t api.Track) (api.Track, api.Errno) {
	if Check(t) != api.OK {
		return api.Track{}, api.ErrTrack
	}
	sets := all(t)
	if isNothing(sets[0]) {
		return api.Track{}, api.ErrTight
	}
	narrow := clone(t)
	for i, nodes := range narrow.Stages {
		for node := range nodes {
			nodes[node].Allowed = sets[i][node]
		}
	}
	return checked(narrow)
}

// Turn returns the track from its end.
func Turn(t api.Track) (api.Track, api.Errno) {
	if Check(t) != api.OK {
		return api.Track{}, api.ErrTrack
	}
	back := turned(t)
	var turn api.Track
	for stage := range t.Stages {
		var nodes []api.Node
		for node, edges := range back.next(stage) {
			allowed := slices.Clone(back.allowed(seat{stage, node}))
			nodes = append(nodes, api.Node{Allowed: allowed, Next: edges})
		}
		turn.Stages = append(turn.Stages, nodes)
	}
	return checked(turn)
}

// checked returns a track, or ErrLimit if a node has too many spans, or edges: nothing else can be wrong with a track that was made of a valid one.
func checked(t api.Track) (api.Track, api.Errno) {
	if Check(t) != api.OK {
		return api.Track{}, api.ErrLimit
	}
	return t, api.OK
}

// Part returns some stages of a track.
func Part(t api.Track, from, to int) (api.Track, api.Errno) {
	if Check(t) != api.OK {
		return api.Track{}, api.ErrTrack
	}
	if !hasStage(t, to) || !between(from, 0, to) {
		return api.Track{}, api.ErrArg
	}
	part := clone(api.Track{Stages: t.Stages[from : to+1]})
	last := part.Stages[to-from]
	for i := range last {
		last[i].Next = nil
	}
	return part, api.OK
}

// clone returns a copy of a track that shares no memory with it.
func clone(t api.Track) api.Track {
	var copied api.Track
	for _, nodes := range t.Stages {
		nodes = slices.Clone(nodes)
		for i, n := range nodes {
			nodes[i] = api.Node{Allowed: slices.Clone(n.Allowed), Next: slices.Clone(n.Next)}
		}
		copied.Stages = append(copied.Stages, nodes)
	}
	return copied
}

// Ends returns the last values of courses with a first value.
func Ends(t api.Track, first int) ([]api.Span, api.Errno) {
	if Check(t) != api.OK {
		return nil, api.ErrTrack
	}
	if !isFeasible(t) {
		return nil, api.ErrTight
	}
	v := limited{turned(t), map[seat][]api.Span{}}
	for node, n := range t.Stages[0] {
		v.left[seat{v.size() - 1, node}] = meet(n.Allowed, single(first))
	}
	last := united(ends(v)[0])
	if len(last) == 0 {
		return nil, api.ErrNone
	}
	return last, api.OK
}
