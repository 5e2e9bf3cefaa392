package tracks

import "aneroid/api"

// Greatest returns the greatest change from a stage to the next one.
func Greatest(t api.Track, stage int) (int, api.Errno) {
	if e := checkChange(t, stage); e != api.OK {
		return 0, e
	}
	rise, ok := greatest(ahead(t), turned(t), stage)
	if !ok {
		return 0, api.ErrTight
	}
	return rise, api.OK
}

// Least returns the least change from a stage to the next one.
func Least(t api.Track, stage int) (int, api.Errno) {
	if e := checkChange(t, stage); e != api.OK {
		return 0, e
	}
	// Backwards the value falls by what it rises by: so the least change is the greatest one there.
	fall, ok := greatest(turned(t), ahead(t), len(t.Stages)-2-stage)
	if !ok {
		return 0, api.ErrTight
	}
	return -fall, api.OK
}

// checkChange returns the error of a track, or that of a stage that must not be the last one.
func checkChange(t api.Track, stage int) api.Errno {
	if Check(t) != api.OK {
		return api.ErrTrack
	}
	if !between(stage, 0, len(t.Stages)-2) {
		return api.ErrArg
	}
	return api.OK
}

// greatest returns the greatest change from a stage of a view to the next one in all courses, or false if there is none; back is the same track as it is seen from its other end.
func greatest(v, back view, stage int) (int, bool) {
	from := ends(back)[v.size()-1-stage]
	to := ends(v)[stage+1]
	found, ok := 0, false
	for node, edges := range v.next(stage) {
		for _, e := range edges {
			if rise, is := greatestBy(e.Change, from[node], to[e.To]); is && (!ok || rise > found) {
				found, ok = rise, true
			}
		}
	}
	return found, ok
}

// greatestBy returns the greatest number within change by which a number of a set is greater than one of another set, or false if there is none.
func greatestBy(change api.Span, from, to []api.Span) (int, bool) {
	found, ok := 0, false
	reached := 0
	for _, s := range from {
		// Of the spans that can be reached, the last one has the greatest numbers.
		for reached < len(to) && to[reached].Lo <= s.Hi+change.Hi {
			reached++
		}
		if reached == 0 {
			continue
		}
		rise := min(to[reached-1].Hi-s.Lo, change.Hi)
		if rise >= change.Lo && (!ok || rise > found) {
			found, ok = rise, true
		}
	}
	return found, ok
}

// Calm returns a track whose changes at a stage are within bounds.
func Calm(t api.Track, stage int, change api.Span) (api.Track, api.Errno) {
	if e := checkChange(t, stage); e != api.OK {
		return api.Track{}, e
	}
	if !isChange(change) {
		return api.Track{}, api.ErrArg
	}
	calm := clone(t)
	nodes := calm.Stages[stage]
	for i, n := range nodes {
		nodes[i].Next = calmer(n.Next, change)
	}
	return calm, api.OK
}

// calmer returns what lies within bounds of the changes of edges, without those of which nothing does.
func calmer(edges []api.Edge, change api.Span) []api.Edge {
	var left []api.Edge
	for _, e := range edges {
		e.Change = common(e.Change, change)
		if e.Change.Lo <= e.Change.Hi {
			left = append(left, e)
		}
	}
	return left
}
