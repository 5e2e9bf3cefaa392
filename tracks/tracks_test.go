package tracks_test

import (
	"math"
	"reflect"
	"slices"
	"testing"

	"aneroid/api"
	"aneroid/tracks"
)

// TestExamples is the table of the chapter.
func TestExamples(t *testing.T) {
	x := example()
	fixed := must(tracks.Fix(x, []api.Limit{limit(2, span(9, 9))}))
	calm := must(tracks.Calm(x, 0, span(1, 1)))
	turn := must(tracks.Turn(x))
	forward := must(tracks.Forward(x))
	for i, pair := range [][2]any{
		{forward[1], [][]api.Span{set(1, 1, 3, 3), set(6, 8)}},
		{forward[2], [][]api.Span{set(1, 4)}},
		{must(tracks.All(x))[0], [][]api.Span{set(0, 2)}},
		{must(tracks.Values(x, 1)), set(1, 1, 3, 3, 6, 7)},
		{must(tracks.Span(x, 1)), span(1, 7)},
		{must(tracks.Course(x)), []api.At{at(0, 0), at(0, 1), at(0, 1)}},
		{must(tracks.With(x, 1, at(1, 7))), []api.At{at(0, 1), at(1, 7), at(0, 4)}},
		{must(tracks.Greatest(x, 0)), 6},
		{must(tracks.Least(x, 1)), -3},
		{must(tracks.Ends(x, 2)), set(3, 4)},
		{must(tracks.Feasible(x)), true},
		{must(tracks.Feasible(fixed)), false},
		{must(tracks.Prove(fixed)), api.Proof{Sets: stages{{set(0, 2)}, {set(1, 1, 3, 3), set(6, 8)}, {nil}}}},
		{must(tracks.Values(calm, 2)), set(1, 4)},
		{turn.Stages[0][0].Next, []api.Edge{edge(0, -2, 0), edge(1, 3, 3)}},
		{must(tracks.Union(set(0, 2, 5, 5), set(2, 4))), set(0, 5)},
		{must(tracks.Meet(set(0, 2, 5, 5), set(2, 4))), set(2, 2)},
	} {
		if !isSame(pair[0], pair[1]) {
			t.Error(i, pair[0], "not", pair[1])
		}
	}
	for _, p := range []api.At{at(1, 8), at(0, 2)} {
		if l, e := tracks.With(x, 1, p); e != api.ErrNone || l != nil {
			t.Error(p, l, e)
		}
	}
	if l, e := tracks.Ends(x, 3); e != api.ErrNone || l != nil {
		t.Error(l, e)
	}
}

// TestOverview is the fourth example of DOC.md.
func TestOverview(t *testing.T) {
	x := track(
		[]api.Node{node(set(0, 2), edge(0, 1, 1), edge(0, 5, 6))},
		[]api.Node{node(set(-bound, bound), edge(0, -3, -3))},
		[]api.Node{node(set(-bound, 4))},
	)
	if l := must(tracks.Values(x, 1)); !slices.Equal(l, set(1, 3, 5, 7)) {
		t.Error(l)
	}
}

func TestCheck(t *testing.T) {
	for i, x := range []api.Track{example(), tight(), largest(), track([]api.Node{{}}), track([]api.Node{node(set(0, 0))})} {
		if e := tracks.Check(x); e != api.OK {
			t.Error(i, e)
		}
	}
	for i, x := range badTracks() {
		if e := tracks.Check(x); e != api.ErrTrack {
			t.Error(i, x, e)
		}
	}
	x := largest()
	x.Stages[0][0].Next = append(x.Stages[0][0].Next, edge(0, 0, 0))
	if e := tracks.Check(x); e != api.ErrTrack {
		t.Error(e)
	}
}

func TestCheckSet(t *testing.T) {
	for _, l := range [][]api.Span{nil, {}, set(-bound, bound), set(0, 1, 3, 3, 5, 9), points(-bound, api.MaxSpans), points(bound-126, api.MaxSpans)} {
		if e := tracks.CheckSet(l); e != api.OK {
			t.Error(l, e)
		}
	}
	for _, l := range append(noSets(), points(0, api.MaxSpans+1)) {
		if e := tracks.CheckSet(l); e != api.ErrArg {
			t.Error(l, e)
		}
	}
}

// A call is a function of the chapter with a track. Its result counts as zero if it has only zero values beside the error.
type call struct {
	name string
	do   func(x api.Track) (bool, api.Errno)
}

func zero[T any](value T, e api.Errno) (bool, api.Errno) {
	var none T
	return isSame(value, none), e
}

// wrong are calls of which an argument is not valid for the tracks example and tight.
func wrong() []call {
	var l []call
	add := func(name string, do func(x api.Track) (bool, api.Errno)) { l = append(l, call{name, do}) }
	for _, n := range []int{-1, 3, math.MinInt, math.MaxInt} {
		add("Values", func(x api.Track) (bool, api.Errno) { return zero(tracks.Values(x, n)) })
		add("Span", func(x api.Track) (bool, api.Errno) { return zero(tracks.Span(x, n)) })
		add("With stage", func(x api.Track) (bool, api.Errno) { return zero(tracks.With(x, n, at(0, 1))) })
		add("With node", func(x api.Track) (bool, api.Errno) { return zero(tracks.With(x, 1, at(n, 1))) })
		add("Fix stage", func(x api.Track) (bool, api.Errno) {
			return zero(tracks.Fix(x, []api.Limit{limit(1), limit(n, span(0, 1))}))
		})
		add("Part from", func(x api.Track) (bool, api.Errno) { return zero(tracks.Part(x, n, 2)) })
		add("Part to", func(x api.Track) (bool, api.Errno) { return zero(tracks.Part(x, 0, n)) })
	}
	for _, n := range []int{-1, 2, 3, math.MinInt, math.MaxInt} {
		add("Greatest", func(x api.Track) (bool, api.Errno) { return zero(tracks.Greatest(x, n)) })
		add("Least", func(x api.Track) (bool, api.Errno) { return zero(tracks.Least(x, n)) })
		add("Calm stage", func(x api.Track) (bool, api.Errno) { return zero(tracks.Calm(x, n, span(0, 1))) })
	}
	for _, s := range append(noSets(), points(0, api.MaxSpans+1)) {
		add("Fix values", func(x api.Track) (bool, api.Errno) {
			return zero(tracks.Fix(x, []api.Limit{limit(0, s...), limit(1)}))
		})
	}
	for _, s := range []api.Span{span(1, 0), span(-bound-1, 0), span(0, bound+1), span(math.MinInt, math.MaxInt), span(math.MaxInt, math.MinInt)} {
		add("Calm span", func(x api.Track) (bool, api.Errno) { return zero(tracks.Calm(x, 0, s)) })
	}
	add("With node of another stage", func(x api.Track) (bool, api.Errno) { return zero(tracks.With(x, 2, at(1, 6))) })
	add("Part turned", func(x api.Track) (bool, api.Errno) { return zero(tracks.Part(x, 2, 1)) })
	return l
}

// right are calls of all functions with valid arguments, as long as the track has two nodes in its second stage; hard are those that need a course.
func right() []call {
	return append(hard(),
		call{"Keeps", func(x api.Track) (bool, api.Errno) {
			return true, tracks.Keeps(x, []api.At{at(0, 0), at(0, 1), at(0, 1)})
		}},
		call{"Feasible", func(x api.Track) (bool, api.Errno) { return zero(tracks.Feasible(x)) }},
		call{"Forward", func(x api.Track) (bool, api.Errno) { return zero(tracks.Forward(x)) }},
		call{"Backward", func(x api.Track) (bool, api.Errno) { return zero(tracks.Backward(x)) }},
		call{"All", func(x api.Track) (bool, api.Errno) { return zero(tracks.All(x)) }},
		call{"Fix", func(x api.Track) (bool, api.Errno) { return zero(tracks.Fix(x, []api.Limit{limit(0)})) }},
		call{"Turn", func(x api.Track) (bool, api.Errno) { return zero(tracks.Turn(x)) }},
		call{"Part", func(x api.Track) (bool, api.Errno) { return zero(tracks.Part(x, 0, 1)) }},
		call{"Calm", func(x api.Track) (bool, api.Errno) { return zero(tracks.Calm(x, 0, span(0, 1))) }},
		call{"Prove", func(x api.Track) (bool, api.Errno) { return zero(tracks.Prove(x)) }},
		call{"CheckProof", func(x api.Track) (bool, api.Errno) { return true, tracks.CheckProof(x, api.Proof{}) }},
	)
}

func hard() []call {
	return []call{
		{"Values", func(x api.Track) (bool, api.Errno) { return zero(tracks.Values(x, 0)) }},
		{"Span", func(x api.Track) (bool, api.Errno) { return zero(tracks.Span(x, 2)) }},
		{"Course", func(x api.Track) (bool, api.Errno) { return zero(tracks.Course(x)) }},
		{"With", func(x api.Track) (bool, api.Errno) { return zero(tracks.With(x, 1, at(1, 7))) }},
		{"Narrow", func(x api.Track) (bool, api.Errno) { return zero(tracks.Narrow(x)) }},
		{"Greatest", func(x api.Track) (bool, api.Errno) { return zero(tracks.Greatest(x, 1)) }},
		{"Least", func(x api.Track) (bool, api.Errno) { return zero(tracks.Least(x, 1)) }},
		{"Ends", func(x api.Track) (bool, api.Errno) { return zero(tracks.Ends(x, 2)) }},
	}
}

func expect(t *testing.T, f call, x api.Track, want api.Errno) {
	t.Helper()
	if none, e := f.do(x); e != want || !none {
		t.Error(f.name, e, none, "not", want)
	}
}

// TestErrors checks the order of errors: ErrTrack, ErrArg, ErrTight.
func TestErrors(t *testing.T) {
	for _, x := range badTracks() {
		for _, f := range append(wrong(), right()...) {
			expect(t, f, x, api.ErrTrack)
		}
	}
	for _, f := range wrong() {
		expect(t, f, example(), api.ErrArg)
		expect(t, f, tight(), api.ErrArg)
	}
	for _, f := range hard() {
		expect(t, f, tight(), api.ErrTight)
		if none, e := f.do(example()); e != api.OK || none {
			t.Error(f.name, e, none)
		}
	}
	late := []call{
		{"With", func(x api.Track) (bool, api.Errno) { return zero(tracks.With(x, 1, at(0, math.MaxInt))) }},
		{"With", func(x api.Track) (bool, api.Errno) { return zero(tracks.With(x, 0, at(0, math.MinInt))) }},
		{"With", func(x api.Track) (bool, api.Errno) { return zero(tracks.With(x, 1, at(0, 0))) }},
		{"Ends", func(x api.Track) (bool, api.Errno) { return zero(tracks.Ends(x, math.MaxInt)) }},
		{"Ends", func(x api.Track) (bool, api.Errno) { return zero(tracks.Ends(x, math.MinInt)) }},
		{"Ends", func(x api.Track) (bool, api.Errno) { return zero(tracks.Ends(x, -1)) }},
	}
	for _, f := range late {
		expect(t, f, example(), api.ErrNone)
		expect(t, f, tight(), api.ErrTight)
	}
	expect(t, call{"Prove", func(x api.Track) (bool, api.Errno) { return zero(tracks.Prove(x)) }}, example(), api.ErrNone)
}

// TestOneStage goes through tracks without any step.
func TestOneStage(t *testing.T) {
	x := track([]api.Node{node(nil), node(set(4, 5, 7, 7)), node(set(1, 1))})
	if l := must(tracks.Course(x)); !slices.Equal(l, []api.At{at(1, 4)}) {
		t.Error(l)
	}
	if l := must(tracks.With(x, 0, at(2, 1))); !slices.Equal(l, []api.At{at(2, 1)}) {
		t.Error(l)
	}
	if l := must(tracks.Values(x, 0)); !slices.Equal(l, set(1, 1, 4, 5, 7, 7)) {
		t.Error(l)
	}
	if l := must(tracks.Ends(x, 7)); !slices.Equal(l, set(7, 7)) {
		t.Error(l)
	}
	if y := must(tracks.Turn(x)); !isSame(x, y) {
		t.Error(y)
	}
	for _, n := range []int{-1, 0, 1} {
		_, e1 := tracks.Greatest(x, n)
		_, e2 := tracks.Least(x, n)
		if _, e := tracks.Calm(x, n, span(0, 0)); e != api.ErrArg || e1 != e || e2 != e {
			t.Error(n, e, e1, e2)
		}
	}
	if e := tracks.CheckProof(track([]api.Node{{}}), api.Proof{Sets: stages{{nil}}}); e != api.OK {
		t.Error(e)
	}
}

// TestKeeps goes through all lists that are nearly courses.
func TestKeeps(t *testing.T) {
	x := newDice(1)
	kept, refused := 0, 0
	for y := range x.tracks(200) {
		for _, c := range coursesOf(y) {
			if e := tracks.Keeps(y, c); e != api.OK {
				t.Fatal(y, c, e)
			}
			i := x.IntN(len(c))
			c[i].Value += x.from(-2, 2)
			c[i].Node += x.from(-1, 1)
			want := api.ErrCourse
			if isCourse(y, c) {
				want = api.OK
				kept++
			} else {
				refused++
			}
			if e := tracks.Keeps(y, c); e != want {
				t.Fatal(y, c, e, want)
			}
		}
	}
	enough(t, kept, 200)
	enough(t, refused, 900)
}

func TestKeepsRefuses(t *testing.T) {
	good := []api.At{at(0, 1), at(1, 7), at(0, 4)}
	if e := tracks.Keeps(example(), good); e != api.OK {
		t.Error(e)
	}
	lists := [][]api.At{nil, good[:2], append(slices.Clone(good), at(0, 4))}
	for i := range good {
		for _, p := range []api.At{at(-1, 1), at(2, 7), at(math.MaxInt, 4), at(good[i].Node, math.MaxInt), at(good[i].Node, math.MinInt), at(1-good[i].Node, good[i].Value)} {
			l := slices.Clone(good)
			l[i] = p
			lists = append(lists, l)
		}
	}
	for _, l := range lists {
		if e := tracks.Keeps(example(), l); e != api.ErrCourse {
			t.Error(l, e)
		}
	}
}

// TestFix checks the track by limits, also with several limits of one stage.
func TestFix(t *testing.T) {
	x := newDice(2)
	for y := range x.tracks(300) {
		want := must(tracks.Part(y, 0, len(y.Stages)-1))
		var l []api.Limit
		for range x.IntN(4) {
			stage := x.IntN(len(y.Stages))
			values := x.set(-4, 5)
			l = append(l, limit(stage, values...))
			for i, n := range want.Stages[stage] {
				both := filter(numbers(n.Allowed), func(v int) bool { return has(values, v) })
				want.Stages[stage][i].Allowed = setOf(both)
			}
		}
		if z, e := tracks.Fix(y, l); e != api.OK || !isSame(z, want) {
			t.Fatal(y, l, z, e)
		}
	}
}

func TestFixLimit(t *testing.T) {
	x := track([]api.Node{node(set(0, 150)), node(set(0, 50, 60, 62, 70, 150))})
	odd, even := limit(0, points(0, 64)...), limit(0, points(1, 64)...)
	y := must(tracks.Fix(x, []api.Limit{odd, limit(0, span(0, 100))}))
	if !slices.Equal(y.Stages[0][0].Allowed, points(0, 51)) {
		t.Error(y)
	}
	if y := must(tracks.Fix(x, []api.Limit{odd, even})); len(y.Stages[0][1].Allowed) != 0 {
		t.Error(y)
	}
	// Each of the spans is cut in two, so that 65 are left where 33 were.
	cut := func(count int) ([]api.Span, []api.Span) {
		var wide, cuts []api.Span
		for i := range count {
			wide = append(wide, span(10*i, 10*i+8))
			cuts = append(cuts, span(10*i-5, 10*i+3))
		}
		return wide, append(cuts, span(10*count-5, 10*count))
	}
	wide, cuts := cut(32)
	z := track([]api.Node{node(wide)})
	if y := must(tracks.Fix(z, []api.Limit{limit(0, cuts...)})); len(y.Stages[0][0].Allowed) != 64 {
		t.Error(y)
	}
	wide, cuts = cut(33)
	z = track([]api.Node{{}}, []api.Node{{}, node(wide)})
	if y, e := tracks.Fix(z, []api.Limit{limit(1, cuts...)}); e != api.ErrLimit || y.Stages != nil {
		t.Error(y, e)
	}
	// What counts is what all limits leave together, and a wrong limit comes ahead.
	few := []api.Limit{limit(1, cuts...), limit(1, span(0, 100))}
	if y, e := tracks.Fix(z, few); e != api.OK {
		t.Error(y, e)
	}
	if y, e := tracks.Fix(z, append(few[:1], limit(2))); e != api.ErrArg {
		t.Error(y, e)
	}
}

// scattered is a track whose second stage can have this many values with gaps between them.
func scattered(count int) api.Track {
	x := track([]api.Node{node(points(0, 20))}, []api.Node{node(set(-bound, bound), edge(0, 0, 0))}, []api.Node{node(set(0, bound))})
	for i := 0; i < count; i += 20 {
		x.Stages[0][0].Next = append(x.Stages[0][0].Next, edge(0, 2*i, 2*i))
	}
	return x
}

func TestNarrowLimit(t *testing.T) {
	x := scattered(80)
	if l := must(tracks.Values(x, 1)); !slices.Equal(l, points(0, 80)) {
		t.Error(l)
	}
	if y, e := tracks.Narrow(x); e != api.ErrLimit || y.Stages != nil {
		t.Error(y, e)
	}
	x.Stages[2][0].Allowed = set(0, 127)
	y := must(tracks.Narrow(x))
	if !slices.Equal(y.Stages[1][0].Allowed, points(0, 64)) {
		t.Error(y)
	}
	x.Stages[2][0].Allowed = set(0, 128)
	if y, e := tracks.Narrow(x); e != api.ErrLimit {
		t.Error(y, e)
	}
	x.Stages[2][0].Allowed = nil
	if y, e := tracks.Narrow(x); e != api.ErrTight {
		t.Error(y, e)
	}
}

func TestTurnLimit(t *testing.T) {
	x := track(make([]api.Node, 65), []api.Node{{}, {}})
	for i := range 64 {
		x.Stages[0][i].Next = []api.Edge{edge(1, i, i+1)}
	}
	y := must(tracks.Turn(x))
	for i, e := range y.Stages[0][1].Next {
		if e != edge(i, -i-1, -i) {
			t.Error(i, e)
		}
	}
	x.Stages[0][64].Next = []api.Edge{edge(1, 0, 0)}
	if y, e := tracks.Turn(x); e != api.ErrLimit || y.Stages != nil {
		t.Error(y, e)
	}
	// Forward and the others know no such limit.
	x.Stages[0][64].Allowed = set(5, 5)
	x.Stages[1][1].Allowed = set(5, 6)
	if l := must(tracks.Forward(x)); !slices.Equal(l[1][1], set(5, 5)) {
		t.Error(l[1])
	}
}

// TestTurnAndPart compares with the words of T14 and T15.
func TestTurnAndPart(t *testing.T) {
	x := newDice(3)
	for y := range x.tracks(200) {
		if z := must(tracks.Turn(y)); !isSame(z, backwards(y)) {
			t.Fatal(y, z)
		}
		for from := range y.Stages {
			for to := from; to < len(y.Stages); to++ {
				want := api.Track{Stages: slices.Clone(y.Stages[from : to+1])}
				last := slices.Clone(y.Stages[to])
				for i := range last {
					last[i].Next = nil
				}
				want.Stages[to-from] = last
				if z := must(tracks.Part(y, from, to)); !isSame(z, want) {
					t.Fatal(y, from, to, z)
				}
			}
		}
	}
}

// TestCalm compares with the words of T18.
func TestCalm(t *testing.T) {
	x := newDice(4)
	for y := range x.tracks(300) {
		if len(y.Stages) == 1 {
			continue
		}
		stage, change := x.IntN(len(y.Stages)-1), x.span(-5, 5)
		z := must(tracks.Calm(y, stage, change))
		want := must(tracks.Part(y, 0, len(y.Stages)-1))
		for i, n := range want.Stages[stage] {
			var left []api.Edge
			for _, e := range n.Next {
				if lo, hi := max(e.Change.Lo, change.Lo), min(e.Change.Hi, change.Hi); lo <= hi {
					left = append(left, edge(e.To, lo, hi))
				}
			}
			want.Stages[stage][i].Next = left
		}
		if !isSame(z, want) {
			t.Fatal(y, stage, change, z)
		}
	}
	if y := must(tracks.Calm(example(), 0, span(-bound, bound))); !isSame(y, example()) {
		t.Error(y)
	}
}

// TestFarEnds has values and changes at the bounds.
func TestFarEnds(t *testing.T) {
	x := track(
		[]api.Node{node(set(-bound, -bound, bound, bound), edge(0, -bound, bound))},
		[]api.Node{node(set(-bound, bound), edge(0, bound, bound))},
		[]api.Node{node(set(-bound, bound))},
	)
	if l := must(tracks.Forward(x)); !isSame(l, stages{{x.Stages[0][0].Allowed}, {set(-bound, bound)}, {set(0, bound)}}) {
		t.Error(l)
	}
	if l := must(tracks.Values(x, 1)); !slices.Equal(l, set(-bound, 0)) {
		t.Error(l)
	}
	if least, greatest := must(tracks.Least(x, 0)), must(tracks.Greatest(x, 0)); least != -bound || greatest != bound {
		t.Error(least, greatest)
	}
	if l := must(tracks.Ends(x, bound)); !slices.Equal(l, set(bound, bound)) {
		t.Error(l)
	}
	if ok := must(tracks.Feasible(largest())); ok {
		t.Error(ok)
	}
	if e := tracks.CheckProof(largest(), must(tracks.Prove(largest()))); e != api.OK {
		t.Error(e)
	}
}

// TestManySpans has sets of far more spans than a track may have: all values are even.
func TestManySpans(t *testing.T) {
	var x api.Track
	const size = 5
	for i := range size {
		n := node(set(-bound, 50000, 50007, bound))
		for k := range api.MaxEdges {
			if i+1 < size {
				change := 2 * ((k*k*k*31 + 7*i) % 20000) * (1 - 2*(k%2))
				n.Next = append(n.Next, edge(0, change, change))
			}
		}
		x.Stages = append(x.Stages, []api.Node{n})
	}
	x.Stages[0][0].Allowed = set(0, 0)
	forward := must(tracks.Forward(x))
	values, most := []int{0}, 0
	for i, nodes := range x.Stages[1:] {
		var is [2*bound + 1]bool
		for _, e := range x.Stages[i][0].Next {
			for _, v := range values {
				if n := v + e.Change.Lo; has(nodes[0].Allowed, n) {
					is[n+bound] = true
				}
			}
		}
		values = nil
		for n := range is {
			if is[n] {
				values = append(values, n-bound)
			}
		}
		most = max(most, len(setOf(values)))
		if !slices.Equal(forward[i+1][0], setOf(values)) {
			t.Fatal(i, len(forward[i+1][0]), len(setOf(values)))
		}
	}
	enough(t, most, 50000)
}

// TestManyEdges has a node to which more edges lead than one may have, in no order, with changes that overlap and touch.
func TestManyEdges(t *testing.T) {
	for wide := range 4 {
		x := track(make([]api.Node, 1000), []api.Node{node(set(0, 50000))})
		var want []int
		for i := range 1000 {
			x.Stages[0][i].Allowed = set(i, i)
			for n := range api.MaxEdges {
				change := span(7*(n*1000+(i*331)%1000)%bound, 0)
				change.Hi = min(bound, change.Lo+(i+n)%(3*wide+1))
				x.Stages[0][i].Next = append(x.Stages[0][i].Next, api.Edge{Change: change})
				for v := i + change.Lo; v <= min(50000, i+change.Hi); v++ {
					want = append(want, v)
				}
			}
		}
		if l := must(tracks.Forward(x)); !slices.Equal(l[1][0], setOf(want)) {
			t.Error(wide, len(l[1][0]), len(setOf(want)))
		}
	}
}

func TestUnionAndMeetRefuse(t *testing.T) {
	for _, l := range append(noSets(), points(0, api.MaxSpans+1)) {
		for _, f := range []func(a, b []api.Span) ([]api.Span, api.Errno){tracks.Union, tracks.Meet} {
			a, e := f(l, set(0, 1))
			if b, e2 := f(set(0, 1), l); e != api.ErrArg || e2 != e || a != nil || b != nil {
				t.Error(l, a, b, e, e2)
			}
		}
	}
	// Two sets of 64 spans can make one of 128.
	if l := must(tracks.Union(points(-bound, 64), points(1, 64))); len(l) != 128 {
		t.Error(l)
	}
	if l := must(tracks.Union(points(0, 64), points(1, 64))); !slices.Equal(l, set(0, 127)) {
		t.Error(l)
	}
}

// TestCheckProof goes through sets that are nearly a proof.
func TestCheckProof(t *testing.T) {
	good := func() stages { return must(tracks.Prove(tight())).Sets }
	for i, p := range []stages{
		good(),
		{{set(0, 2, 50, 60)}, {set(-bound, -5, 1, 1, 3, 3), set(-100, 9)}, {nil}},
		{{set(-1, 2)}, {set(0, 1, 3, 3), points(6, 4)}, {{}}},
		{{points(0, 2)}, {nil, nil}, {nil}},
	} {
		want := api.OK
		if i > 1 {
			want = api.ErrProof
		}
		if e := tracks.CheckProof(tight(), api.Proof{Sets: p}); e != want {
			t.Error(i, e)
		}
	}
	for i, spoil := range []func(p stages) stages{
		func(p stages) stages { return nil },
		func(p stages) stages { return p[:2] },
		func(p stages) stages { return append(p, p[2]) },
		func(p stages) stages { p[1] = p[1][:1]; return p },
		func(p stages) stages { p[1] = append(p[1], nil); return p },
		func(p stages) stages { p[2] = nil; return p },
		func(p stages) stages { p[0][0] = set(0, 1); return p },
		func(p stages) stages { p[0][0] = nil; return p },
		func(p stages) stages { p[1][0] = set(1, 1); return p },
		func(p stages) stages { p[1][1] = set(6, 7); return p },
		func(p stages) stages { p[1][1] = set(6, 12); return p },
		func(p stages) stages { p[2][0] = set(9, 9); return p },
		func(p stages) stages { p[2][0] = set(50, 50); return p },
	} {
		if e := tracks.CheckProof(tight(), api.Proof{Sets: spoil(good())}); e != api.ErrProof {
			t.Error(i, e)
		}
	}
	for _, l := range noSets() {
		p := good()
		p[0][0] = l
		if e := tracks.CheckProof(tight(), api.Proof{Sets: p}); e != api.ErrProof {
			t.Error(l, e)
		}
	}
}

// TestLargeProof is a proof whose sets have more spans than those of a track.
func TestLargeProof(t *testing.T) {
	x := scattered(200)
	x.Stages[2][0].Allowed = set(1, 1)
	p := must(tracks.Prove(x))
	if len(p.Sets[1][0]) != 200 {
		t.Error(p)
	}
	if e := tracks.CheckProof(x, p); e != api.OK {
		t.Error(e)
	}
	p.Sets[1][0] = slices.Delete(p.Sets[1][0], 150, 151)
	if e := tracks.CheckProof(x, p); e != api.ErrProof {
		t.Error(e)
	}
}

// TestNewMemory writes over results: neither arguments nor the results of the next calls may show it.
func TestNewMemory(t *testing.T) {
	x, p := example(), must(tracks.Prove(tight()))
	results := func() []any {
		return []any{
			must(tracks.Forward(x)), must(tracks.Backward(x)), must(tracks.All(x)), must(tracks.Values(x, 0)),
			must(tracks.Course(x)), must(tracks.With(x, 1, at(1, 7))), must(tracks.Fix(x, []api.Limit{limit(1, span(0, 9))})),
			must(tracks.Fix(x, nil)), must(tracks.Narrow(x)), must(tracks.Turn(x)), must(tracks.Part(x, 0, 2)),
			must(tracks.Part(x, 0, 1)), must(tracks.Calm(x, 0, span(1, 5))), must(tracks.Ends(x, 2)),
			must(tracks.Prove(tight())), must(tracks.Union(x.Stages[1][0].Allowed, nil)),
			must(tracks.Meet(x.Stages[1][0].Allowed, x.Stages[1][0].Allowed)),
		}
	}
	want := results()
	for i, r := range results() {
		scribble(reflect.ValueOf(r))
		if tracks.CheckProof(tight(), p) != api.OK || !isSame(x, example()) {
			t.Fatal(i, x, p)
		}
	}
	for i, r := range results() {
		if !isSame(r, want[i]) {
			t.Error(i, r, want[i])
		}
	}
}

// TestOwnMemory appends to each list of a result: none of the others may show it.
func TestOwnMemory(t *testing.T) {
	x := example()
	turn := must(tracks.Turn(x))
	for _, nodes := range turn.Stages {
		for i := range nodes {
			nodes[i].Next = append(nodes[i].Next, edge(0, 7, 7))
			nodes[i].Next = nodes[i].Next[:len(nodes[i].Next)-1]
		}
	}
	if !isSame(turn, backwards(x)) {
		t.Error(turn)
	}
}
