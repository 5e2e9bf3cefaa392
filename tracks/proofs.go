package tracks

import "aneroid/api"

// Prove returns a proof that there is no course.
func Prove(t api.Track) (api.Proof, api.Errno) {
	if Check(t) != api.OK {
		return api.Proof{}, api.ErrTrack
	}
	sets := beginnings(t)
	if !isNothing(sets[len(sets)-1]) {
		return api.Proof{}, api.ErrNone
	}
	return api.Proof{Sets: sets}, api.OK
}

// CheckProof returns OK if sets prove that there is no course.
func CheckProof(t api.Track, p api.Proof) api.Errno {
	if Check(t) != api.OK {
		return api.ErrTrack
	}
	if !fits(t, p.Sets) || !isClosed(t, p.Sets) || !isNothing(p.Sets[len(p.Sets)-1]) {
		return api.ErrProof
	}
	return api.OK
}

// fits reports whether there is a set for each node of each stage.
func fits(t api.Track, sets [][][]api.Span) bool {
	if len(sets) != len(t.Stages) {
		return false
	}
	for i, stage := range sets {
		if len(stage) != len(t.Stages[i]) {
			return false
		}
		for _, set := range stage {
			if !isSet(set) {
				return false
			}
		}
	}
	return true
}

// isClosed reports whether no course leaves the sets: they have all that is allowed at first, and each step from them leads into them.
func isClosed(t api.Track, sets [][][]api.Span) bool {
	for node, n := range t.Stages[0] {
		if !isWithin(n.Allowed, sets[0][node]) {
			return false
		}
	}
	back := turned(t)
	for i, stage := range sets[1:] {
		// Backwards, steps lead from the stage behind into these sets.
		for node, reached := range starts(back, back.mirror(i+1), sets[i]) {
			if !isWithin(reached, stage[node]) {
				return false
			}
		}
	}
	return true
}
