package tracks_test

import (
	"cmp"
	"math"
	"math/rand/v2"
	"reflect"
	"slices"
	"testing"

	"aneroid/api"
)

// bound is the greatest number of a set or of a change, and -bound the least one.
const bound = 100000

// A stages is a set for each stage and each node.
type stages = [][][]api.Span

func span(lo, hi int) api.Span { return api.Span{Lo: lo, Hi: hi} }

func at(node, value int) api.At { return api.At{Node: node, Value: value} }

func edge(to, lo, hi int) api.Edge { return api.Edge{To: to, Change: span(lo, hi)} }

func limit(stage int, values ...api.Span) api.Limit { return api.Limit{Stage: stage, Values: values} }

// set returns spans by their ends.
func set(ends ...int) []api.Span {
	var l []api.Span
	for i := 0; i < len(ends); i += 2 {
		l = append(l, span(ends[i], ends[i+1]))
	}
	return l
}

func node(allowed []api.Span, next ...api.Edge) api.Node {
	return api.Node{Allowed: allowed, Next: next}
}

func track(l ...[]api.Node) api.Track { return api.Track{Stages: l} }

// example is the track t of the chapter's examples.
func example() api.Track {
	return track(
		[]api.Node{node(set(0, 2), edge(0, 1, 1), edge(1, 5, 6))},
		[]api.Node{node(set(0, 1, 3, 3), edge(0, 0, 2)), node(set(6, 20), edge(0, -3, -3))},
		[]api.Node{node(set(0, 4, 9, 9))},
	)
}

// tight is a track without a course.
func tight() api.Track {
	t := example()
	t.Stages[2][0].Allowed = set(9, 9)
	return t
}

// points returns a set of so many single numbers, each two greater than the one before.
func points(first, count int) []api.Span {
	var l []api.Span
	for i := range count {
		l = append(l, span(first+2*i, first+2*i))
	}
	return l
}

// largest is a track that has as much of each kind as it may have.
func largest() api.Track {
	t := api.Track{Stages: make([][]api.Node, api.MaxStages)}
	for i := range t.Stages {
		t.Stages[i] = []api.Node{node(set(-bound, bound), edge(0, -bound, bound))}
	}
	t.Stages[0] = make([]api.Node, api.MaxNodes)
	t.Stages[0][0].Allowed = points(-bound, api.MaxSpans)
	for range api.MaxEdges {
		t.Stages[0][0].Next = append(t.Stages[0][0].Next, edge(0, bound, bound))
	}
	t.Stages[api.MaxStages-1] = make([]api.Node, api.MaxNodes)
	t.Stages[api.MaxStages-2][0].Next = []api.Edge{edge(api.MaxNodes-1, -bound, -bound)}
	return t
}

// noSets are lists that are no sets.
func noSets() [][]api.Span {
	return [][]api.Span{
		set(1, 0), set(0, 2, 2, 3), set(0, 2, 3, 4), set(5, 6, 1, 2), set(0, 9, 3, 4), set(3, 3, 3, 3),
		set(-bound-1, 0), set(0, bound+1), set(0, 1, 3, bound+1), set(0, 1, 5, 4),
		set(math.MinInt, math.MaxInt), set(math.MaxInt, math.MinInt), set(0, math.MaxInt), set(math.MinInt, 0),
		set(0, math.MaxInt, math.MinInt, 5), set(0, math.MaxInt-1, math.MinInt, 5),
	}
}

// badTracks are tracks with one fault each.
func badTracks() []api.Track {
	l := []api.Track{{}, track([]api.Node{}), track([]api.Node{node(nil, edge(0, 0, 0))})}
	for _, s := range append(noSets(), points(0, api.MaxSpans+1)) {
		t := example()
		t.Stages[1][1].Allowed = s
		l = append(l, t)
	}
	for _, spoil := range []func(t api.Track) api.Track{
		func(t api.Track) api.Track { t.Stages[0][0].Next[1].To = 2; return t },
		func(t api.Track) api.Track { t.Stages[0][0].Next[1].To = -1; return t },
		func(t api.Track) api.Track { t.Stages[0][0].Next[1].To = math.MaxInt; return t },
		func(t api.Track) api.Track { t.Stages[1][1].Next[0].Change = span(1, 0); return t },
		func(t api.Track) api.Track { t.Stages[1][1].Next[0].Change = span(-bound-1, 0); return t },
		func(t api.Track) api.Track { t.Stages[1][1].Next[0].Change = span(0, bound+1); return t },
		func(t api.Track) api.Track {
			t.Stages[1][1].Next[0].Change = span(math.MinInt, math.MaxInt)
			return t
		},
		func(t api.Track) api.Track { t.Stages[2][0].Next = []api.Edge{edge(0, 0, 0)}; return t },
		func(t api.Track) api.Track { t.Stages[1] = nil; return t },
		func(t api.Track) api.Track { t.Stages[2] = nil; return t },
		func(t api.Track) api.Track { t.Stages[0] = make([]api.Node, api.MaxNodes+1); return t },
		func(t api.Track) api.Track {
			t.Stages[1][0].Next = make([]api.Edge, api.MaxEdges+1)
			return t
		},
		func(t api.Track) api.Track { return track(slices.Repeat(t.Stages[2:], api.MaxStages+1)...) },
	} {
		l = append(l, spoil(example()))
	}
	return l
}

// must returns the value of a call that must return no error.
func must[T any](value T, e api.Errno) T {
	if e != api.OK {
		panic(e)
	}
	return value
}

// dice gives the same numbers in every run.
type dice struct{ *rand.Rand }

func newDice(seed uint64) dice { return dice{rand.New(rand.NewPCG(seed, 4))} }

func (d dice) from(lo, hi int) int { return lo + d.IntN(hi-lo+1) }

// span returns a span with ends from lo to hi, of which most are short.
func (d dice) span(lo, hi int) api.Span {
	first := d.from(lo, hi)
	return span(first, min(hi, first+d.IntN(1+d.IntN(5))))
}

// set returns a set of small numbers, which may be empty.
func (d dice) set(lo, hi int) []api.Span {
	var l []int
	for n := lo; n <= hi; n++ {
		if d.IntN(5) < 3 {
			l = append(l, n)
		}
	}
	return setOf(l)
}

// track returns a small track; most of them have courses.
func (d dice) track(size int) api.Track {
	var t api.Track
	for range size {
		t.Stages = append(t.Stages, make([]api.Node, d.from(1, 3)))
	}
	for i, nodes := range t.Stages {
		for k := range nodes {
			nodes[k].Allowed = d.set(-2, 3)
			if i+1 == size {
				continue
			}
			for range d.IntN(5) {
				e := api.Edge{To: d.IntN(len(t.Stages[i+1])), Change: d.span(-3, 3)}
				nodes[k].Next = append(nodes[k].Next, e)
			}
		}
	}
	return t
}

// tracks yields small tracks of all sizes to 4.
func (d dice) tracks(count int) func(yield func(api.Track) bool) {
	return func(yield func(api.Track) bool) {
		for i := range count {
			if !yield(d.track(1 + i%4)) {
				return
			}
		}
	}
}

// plain returns a track with one node with one allowed span in each stage, and one edge in each but the last one.
func (d dice) plain(size int) api.Track {
	var t api.Track
	for i := range size {
		low := d.from(-3, 3)
		n := node(set(low, low+d.IntN(4)))
		if i+1 < size {
			low := d.from(-3, 3)
			n.Next = []api.Edge{edge(0, low, low+d.IntN(3))}
		}
		t.Stages = append(t.Stages, []api.Node{n})
	}
	return t
}

// setOf returns the set of numbers in any order.
func setOf(numbers []int) []api.Span {
	var l []api.Span
	for _, n := range slices.Compact(slices.Sorted(slices.Values(numbers))) {
		if len(l) > 0 && l[len(l)-1].Hi+1 == n {
			l[len(l)-1].Hi = n
		} else {
			l = append(l, span(n, n))
		}
	}
	return l
}

// numbers returns all numbers of spans.
func numbers(l []api.Span) []int {
	var all []int
	for _, s := range l {
		for n := s.Lo; n <= s.Hi; n++ {
			all = append(all, n)
		}
	}
	return all
}

func has(l []api.Span, n int) bool {
	return slices.ContainsFunc(l, func(s api.Span) bool { return s.Lo <= n && n <= s.Hi })
}

// isPlace and isStep are the words of the chapter.
func isPlace(t api.Track, stage int, p api.At) bool {
	nodes := t.Stages[stage]
	return p.Node >= 0 && p.Node < len(nodes) && has(nodes[p.Node].Allowed, p.Value)
}

func isStep(t api.Track, stage int, from, to api.At) bool {
	for _, e := range t.Stages[stage][from.Node].Next {
		if e.To == to.Node && has([]api.Span{e.Change}, to.Value-from.Value) {
			return true
		}
	}
	return false
}

// isCourse reports whether a list is a course.
func isCourse(t api.Track, c []api.At) bool {
	if len(c) != len(t.Stages) {
		return false
	}
	for i, p := range c {
		if !isPlace(t, i, p) || i > 0 && !isStep(t, i-1, c[i-1], p) {
			return false
		}
	}
	return true
}

// places returns all places of a stage, in order.
func places(t api.Track, stage int) []api.At {
	var l []api.At
	for i, n := range t.Stages[stage] {
		for _, v := range numbers(n.Allowed) {
			l = append(l, at(i, v))
		}
	}
	return l
}

// coursesOf returns all courses of a small track, in order.
func coursesOf(t api.Track) [][]api.At {
	var all [][]api.At
	var course []api.At
	var search func()
	search = func() {
		stage := len(course)
		if stage == len(t.Stages) {
			all = append(all, slices.Clone(course))
			return
		}
		for _, p := range places(t, stage) {
			if stage == 0 || isStep(t, stage-1, course[stage-1], p) {
				course = append(course, p)
				search()
				course = course[:stage]
			}
		}
	}
	search()
	return all
}

// compare puts courses in order.
func compare(a, b []api.At) int {
	return slices.CompareFunc(a, b, func(p, q api.At) int {
		return cmp.Or(cmp.Compare(p.Node, q.Node), cmp.Compare(p.Value, q.Value))
	})
}

// reached returns for each stage and node the values of the places of lists.
func reached(t api.Track, lists [][]api.At) stages {
	all := make([][][]int, len(t.Stages))
	for i, nodes := range t.Stages {
		all[i] = make([][]int, len(nodes))
	}
	for _, l := range lists {
		for i, p := range l {
			all[i][p.Node] = append(all[i][p.Node], p.Value)
		}
	}
	sets := make(stages, len(t.Stages))
	for i, nodes := range all {
		for _, values := range nodes {
			sets[i] = append(sets[i], setOf(values))
		}
	}
	return sets
}

// beginnings returns all places that are the last one of a beginning: stage by stage, by steps from the places before.
func beginnings(t api.Track) stages {
	var last []api.At
	var lists [][]api.At
	for i := range t.Stages {
		var next []api.At
		for _, p := range places(t, i) {
			follows := func(from api.At) bool { return isStep(t, i-1, from, p) }
			if i == 0 || slices.ContainsFunc(last, follows) {
				next = append(next, p)
			}
		}
		last = next
		for _, p := range last {
			lists = append(lists, make([]api.At, i+1))
			lists[len(lists)-1][i] = p
		}
	}
	return placed(t, lists)
}

// placed returns the values of the last places of lists.
func placed(t api.Track, lists [][]api.At) stages {
	all := reached(t, nil)
	for _, l := range lists {
		p := l[len(l)-1]
		set := all[len(l)-1][p.Node]
		all[len(l)-1][p.Node] = setOf(append(numbers(set), p.Value))
	}
	return all
}

// endings returns all places that are the first one of an end.
func endings(t api.Track) stages {
	sets := beginnings(backwards(t))
	slices.Reverse(sets)
	return sets
}

// backwards returns the track that has the courses of a track from their ends.
func backwards(t api.Track) api.Track {
	var back api.Track
	for i := range t.Stages {
		var nodes []api.Node
		for k, n := range t.Stages[i] {
			nodes = append(nodes, node(n.Allowed))
			if i == 0 {
				continue
			}
			for from, before := range t.Stages[i-1] {
				for _, e := range before.Next {
					if e.To == k {
						nodes[k].Next = append(nodes[k].Next, edge(from, -e.Change.Hi, -e.Change.Lo))
					}
				}
			}
		}
		back.Stages = slices.Insert(back.Stages, 0, nodes)
	}
	return back
}

// opposite returns a course from its end.
func opposite(c []api.At) []api.At {
	c = slices.Clone(c)
	slices.Reverse(c)
	return c
}

// withPlace returns the courses that have a place at a stage.
func withPlace(courses [][]api.At, stage int, p api.At) [][]api.At {
	return filter(courses, func(c []api.At) bool { return c[stage] == p })
}

func filter[T any](l []T, is func(T) bool) []T {
	return slices.DeleteFunc(slices.Clone(l), func(x T) bool { return !is(x) })
}

// valuesAt returns the values that courses have at a stage.
func valuesAt(courses [][]api.At, stage int) []api.Span {
	var l []int
	for _, c := range courses {
		l = append(l, c[stage].Value)
	}
	return setOf(l)
}

// isSame compares with nil slices as empty ones.
func isSame(a, b any) bool { return same(reflect.ValueOf(a), reflect.ValueOf(b)) }

func same(a, b reflect.Value) bool {
	switch a.Kind() {
	case reflect.Slice:
		if a.Len() != b.Len() {
			return false
		}
		for i := range a.Len() {
			if !same(a.Index(i), b.Index(i)) {
				return false
			}
		}
		return true
	case reflect.Struct:
		for i := range a.NumField() {
			if !same(a.Field(i), b.Field(i)) {
				return false
			}
		}
		return true
	}
	return a.Equal(b)
}

// sameCourses fails a test unless a track has just these courses.
func sameCourses(t *testing.T, got api.Track, want [][]api.At) {
	t.Helper()
	if l := coursesOf(got); !isSame(l, want) {
		t.Fatal(got, l, want)
	}
}

// scribble writes over all numbers of a value that lie in slices; memory that is shared shows it.
func scribble(v reflect.Value) {
	switch v.Kind() {
	case reflect.Slice:
		for i := range v.Len() {
			scribble(v.Index(i))
		}
	case reflect.Struct:
		for i := range v.NumField() {
			scribble(v.Field(i))
		}
	case reflect.Int:
		if v.CanSet() {
			v.SetInt(-77)
		}
	}
}

// enough fails a test that would have gone through too little.
func enough(t *testing.T, seen, least int) {
	t.Helper()
	if seen < least {
		t.Error("only", seen, "of at least", least)
	}
}
