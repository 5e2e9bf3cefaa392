package tracks_test

import (
	"slices"
	"testing"

	"aneroid/api"
	"aneroid/tracks"
)

// TestExact is P4.2: what is told is just what the courses have that are found by going through all lists.
func TestExact(t *testing.T) {
	x := newDice(10)
	with, without := 0, 0
	for y := range x.tracks(600) {
		courses := coursesOf(y)
		all := must(tracks.All(y))
		forward, backward := must(tracks.Forward(y)), must(tracks.Backward(y))
		if !isSame(all, reached(y, courses)) || !isSame(forward, beginnings(y)) || !isSame(backward, endings(y)) {
			t.Fatal(y, all, forward, backward)
		}
		if ok := must(tracks.Feasible(y)); ok != (len(courses) > 0) {
			t.Fatal(y, ok)
		}
		if len(courses) == 0 {
			without++
			continue
		}
		for stage := range y.Stages {
			values := valuesAt(courses, stage)
			if l := must(tracks.Values(y, stage)); !slices.Equal(l, values) {
				t.Fatal(y, stage, l)
			}
			if s := must(tracks.Span(y, stage)); s != span(values[0].Lo, values[len(values)-1].Hi) {
				t.Fatal(y, stage, s)
			}
		}
		with++
	}
	enough(t, with, 400)
	enough(t, without, 50)
}

// TestMeetsOfBoth is the rest of P4.2: All has what is in Forward and in Backward, Values what is in All, in tracks too large for going through.
func TestMeetsOfBoth(t *testing.T) {
	x := newDice(11)
	seen := 0
	for range 200 {
		y := x.track(12)
		all, forward, backward := must(tracks.All(y)), must(tracks.Forward(y)), must(tracks.Backward(y))
		for i, nodes := range all {
			var values []api.Span
			for k, l := range nodes {
				if both := must(tracks.Meet(forward[i][k], backward[i][k])); !slices.Equal(both, l) {
					t.Fatal(y, i, k, both, l)
				}
				values = must(tracks.Union(values, l))
			}
			if l, e := tracks.Values(y, i); (e == api.OK) != (len(values) > 0) || !slices.Equal(l, values) {
				t.Fatal(y, i, l, e)
			}
			seen += len(values)
		}
	}
	enough(t, seen, 100)
}

// TestExchange is P4.3.
func TestExchange(t *testing.T) {
	x := newDice(12)
	exchanged, joined := 0, 0
	for y := range x.tracks(200) {
		courses := coursesOf(y)
		for range 10 * min(1, len(courses)) {
			c, d := courses[x.IntN(len(courses))], courses[x.IntN(len(courses))]
			stage := x.IntN(len(c))
			head, tail := must(tracks.Part(y, 0, stage)), must(tracks.Part(y, stage, len(c)-1))
			if tracks.Keeps(head, c[:stage+1]) != api.OK || tracks.Keeps(tail, c[stage:]) != api.OK {
				t.Fatal(y, c, stage)
			}
			if c[stage] == d[stage] {
				if e := tracks.Keeps(y, slices.Concat(c[:stage], d[stage:])); e != api.OK {
					t.Fatal(y, c, d, stage)
				}
				exchanged++
			}
			if l := coursesOf(tail); len(l) > 0 {
				end := l[x.IntN(len(l))]
				beginning := withPlace(coursesOf(head), stage, end[0])
				for _, b := range beginning {
					if e := tracks.Keeps(y, slices.Concat(b, end[1:])); e != api.OK {
						t.Fatal(y, b, end)
					}
					joined++
				}
			}
		}
	}
	enough(t, exchanged, 500)
	enough(t, joined, 500)
}

// isProof is the words of the chapter, and isClosed its rules 1 and 2.
func isProof(t api.Track, sets stages) bool {
	for _, l := range sets[len(sets)-1] {
		if len(l) > 0 {
			return false
		}
	}
	return isClosed(t, sets)
}

func isClosed(t api.Track, sets stages) bool {
	for i, nodes := range t.Stages {
		for k, n := range nodes {
			if i == 0 && slices.ContainsFunc(numbers(n.Allowed), func(v int) bool { return !has(sets[0][k], v) }) {
				return false
			}
			for _, e := range n.Next {
				for _, v := range numbers(sets[i][k]) {
					for _, d := range numbers([]api.Span{e.Change}) {
						if has(t.Stages[i+1][e.To].Allowed, v+d) && !has(sets[i+1][e.To], v+d) {
							return false
						}
					}
				}
			}
		}
	}
	return true
}

// TestProofs is P4.4.
func TestProofs(t *testing.T) {
	x := newDice(13)
	proofs, others, none := 0, 0, 0
	for y := range x.tracks(900) {
		p, e := tracks.Prove(y)
		if courses := coursesOf(y); (e == api.OK) != (len(courses) == 0) {
			t.Fatal(y, e, courses)
		}
		if e == api.OK {
			if !isSame(p.Sets, must(tracks.Forward(y))) || tracks.CheckProof(y, p) != api.OK || !isProof(y, p.Sets) {
				t.Fatal(y, p)
			}
			proofs++
		}
		// Sets like those of Forward, with some numbers more or less.
		sets := must(tracks.Forward(y))
		for range x.IntN(3) {
			stage := sets[x.IntN(len(sets))]
			k := x.IntN(len(stage))
			stage[k] = setOf(append(numbers(stage[k]), x.from(-4, 5)))
			if x.IntN(4) == 0 {
				stage[k] = filter(stage[k], func(api.Span) bool { return x.IntN(2) == 0 })
			}
		}
		if x.IntN(2) == 0 {
			last := sets[len(sets)-1]
			clear(last)
		}
		p = api.Proof{Sets: sets}
		if isProof(y, sets) {
			if e := tracks.CheckProof(y, p); e != api.OK {
				t.Fatal(y, p, e)
			}
			others++
		} else {
			if e := tracks.CheckProof(y, p); e != api.ErrProof {
				t.Fatal(y, p, e)
			}
			none++
		}
	}
	enough(t, proofs, 100)
	enough(t, others, 40)
	enough(t, none, 400)
}

// TestClosedSets is the rest of P4.4: sets that no course leaves have all values of Forward.
func TestClosedSets(t *testing.T) {
	x := newDice(14)
	closed := 0
	for y := range x.tracks(200) {
		forward := must(tracks.Forward(y))
		for range 10 {
			var sets stages
			for _, nodes := range y.Stages {
				var l [][]api.Span
				for range nodes {
					l = append(l, filter(set(-2, 1, 3, 3), func(api.Span) bool { return x.IntN(6) > 0 }))
				}
				sets = append(sets, l)
			}
			if !isClosed(y, sets) {
				continue
			}
			closed++
			for i, nodes := range forward {
				for k, l := range nodes {
					if both := must(tracks.Meet(l, sets[i][k])); !slices.Equal(both, l) {
						t.Fatal(y, sets, forward)
					}
				}
			}
		}
	}
	enough(t, closed, 60)
}

// TestFirst is P4.5, and the rest of P4.2: With returns the first course with each place that has one.
func TestFirst(t *testing.T) {
	x := newDice(15)
	found, none := 0, 0
	for y := range x.tracks(300) {
		courses := coursesOf(y)
		if len(courses) == 0 {
			continue
		}
		if c := must(tracks.Course(y)); !slices.Equal(c, slices.MinFunc(courses, compare)) {
			t.Fatal(y, c)
		}
		for stage, nodes := range y.Stages {
			for k := range nodes {
				for v := -4; v <= 5; v++ {
					c, e := tracks.With(y, stage, at(k, v))
					l := withPlace(courses, stage, at(k, v))
					if len(l) == 0 {
						if e != api.ErrNone || c != nil {
							t.Fatal(y, stage, k, v, c, e)
						}
						none++
						continue
					}
					if e != api.OK || !slices.Equal(c, slices.MinFunc(l, compare)) {
						t.Fatal(y, stage, k, v, c, e)
					}
					found++
				}
			}
		}
	}
	enough(t, found, 1000)
	enough(t, none, 1000)
}

// TestFirstOfManyEdges has edges and nodes that are not in order, and two edges between the same nodes.
func TestFirstOfManyEdges(t *testing.T) {
	x := track(
		[]api.Node{{}, node(set(4, 4), edge(2, 0, 0), edge(1, 5, 5), edge(1, -6, -2), edge(1, -1, 0), edge(0, 9, 9))},
		[]api.Node{node(set(4, 5)), node(set(-9, -3, -1, 0, 3, 9)), node(set(4, 4))},
	)
	if c := must(tracks.Course(x)); !slices.Equal(c, []api.At{at(1, 4), at(1, -1)}) {
		t.Error(c)
	}
}

// TestLimits is P4.6.
func TestLimits(t *testing.T) {
	x := newDice(16)
	narrowed, calmed := 0, 0
	for y := range x.tracks(400) {
		courses := coursesOf(y)
		stage, values, change := x.IntN(len(y.Stages)), x.set(-2, 3), x.span(-3, 3)
		fixed := must(tracks.Fix(y, []api.Limit{limit(stage, values...), limit(0, span(-1, 3))}))
		sameCourses(t, fixed, filter(courses, func(c []api.At) bool {
			return has(values, c[stage].Value) && has(set(-1, 3), c[0].Value)
		}))
		if stage+1 < len(y.Stages) {
			calm := must(tracks.Calm(y, stage, change))
			sameCourses(t, calm, filter(courses, func(c []api.At) bool {
				return has([]api.Span{change}, c[stage+1].Value-c[stage].Value)
			}))
			calmed++
		}
		if len(courses) == 0 {
			continue
		}
		narrow := must(tracks.Narrow(y))
		sameCourses(t, narrow, courses)
		if again := must(tracks.Narrow(narrow)); !isSame(again, narrow) {
			t.Fatal(y, narrow, again)
		}
		for i, nodes := range narrow.Stages {
			for k, n := range nodes {
				if !isSame(n.Next, y.Stages[i][k].Next) || !isSame(n.Allowed, reached(y, courses)[i][k]) {
					t.Fatal(y, narrow)
				}
			}
		}
		narrowed++
	}
	enough(t, narrowed, 150)
	enough(t, calmed, 150)
}

// TestBackwards is P4.7.
func TestBackwards(t *testing.T) {
	x := newDice(17)
	for y := range x.tracks(300) {
		turn := must(tracks.Turn(y))
		var want [][]api.At
		courses := coursesOf(y)
		for _, c := range courses {
			want = append(want, opposite(c))
		}
		slices.SortFunc(want, compare)
		sameCourses(t, turn, want)
		forward := must(tracks.Forward(turn))
		slices.Reverse(forward)
		if !isSame(forward, must(tracks.Backward(y))) {
			t.Fatal(y, forward)
		}
		sameCourses(t, must(tracks.Turn(turn)), courses)
	}
}

// TestChanges is P4.8.
func TestChanges(t *testing.T) {
	x := newDice(18)
	seen := 0
	for y := range x.tracks(500) {
		courses := coursesOf(y)
		for stage := range len(y.Stages) - 1 {
			greatest, e := tracks.Greatest(y, stage)
			least, e2 := tracks.Least(y, stage)
			if len(courses) == 0 {
				if e != api.ErrTight || e2 != e {
					t.Fatal(y, e, e2)
				}
				continue
			}
			var l []int
			for _, c := range courses {
				l = append(l, c[stage+1].Value-c[stage].Value)
			}
			if e != api.OK || e2 != e || greatest != slices.Max(l) || least != slices.Min(l) {
				t.Fatal(y, stage, greatest, least, e, e2, l)
			}
			for _, n := range []int{greatest, least} {
				if !must(tracks.Feasible(must(tracks.Calm(y, stage, span(n, n))))) {
					t.Fatal(y, stage, n)
				}
			}
			seen++
		}
	}
	enough(t, seen, 400)
}

// TestWideChanges is the rest of P4.8, with sets of many spans: each pair of values is tried.
func TestWideChanges(t *testing.T) {
	x := newDice(19)
	seen := 0
	for range 400 {
		low := x.from(-40, 40)
		change := span(low, low+x.IntN(1+x.IntN(40)))
		y := track([]api.Node{node(x.set(-20, 20), api.Edge{Change: change})}, []api.Node{node(x.set(-20, 20))})
		var l []int
		for _, a := range numbers(y.Stages[0][0].Allowed) {
			for _, b := range numbers(y.Stages[1][0].Allowed) {
				if has([]api.Span{change}, b-a) {
					l = append(l, b-a)
				}
			}
		}
		if len(l) == 0 {
			continue
		}
		greatest, least := must(tracks.Greatest(y, 0)), must(tracks.Least(y, 0))
		if greatest != slices.Max(l) || least != slices.Min(l) {
			t.Fatal(y, greatest, least, l)
		}
		seen++
	}
	enough(t, seen, 200)
}

// TestEnds is P4.9.
func TestEnds(t *testing.T) {
	x := newDice(20)
	some, none := 0, 0
	for y := range x.tracks(400) {
		courses := coursesOf(y)
		if len(courses) == 0 {
			continue
		}
		for v := -4; v <= 5; v++ {
			want := valuesAt(filter(courses, func(c []api.At) bool { return c[0].Value == v }), len(y.Stages)-1)
			l, e := tracks.Ends(y, v)
			if !slices.Equal(l, want) || (e == api.OK) != (len(want) > 0) || e != api.OK && e != api.ErrNone {
				t.Fatal(y, v, l, e)
			}
			if e == api.OK {
				some++
			} else {
				none++
			}
		}
	}
	enough(t, some, 600)
	enough(t, none, 600)
}

// TestEndsOfParts is the rest of P4.9.
func TestEndsOfParts(t *testing.T) {
	x := newDice(21)
	seen := 0
	for range 400 {
		y := x.track(5)
		// The stage 2 has one node: all edges lead to it.
		y.Stages[2] = y.Stages[2][:1]
		for _, n := range y.Stages[1] {
			for i := range n.Next {
				n.Next[i].To = 0
			}
		}
		head, tail := must(tracks.Part(y, 0, 2)), must(tracks.Part(y, 2, 4))
		for v := -2; v <= 3; v++ {
			var all []api.Span
			middle, _ := tracks.Ends(head, v)
			for _, m := range numbers(middle) {
				l, _ := tracks.Ends(tail, m)
				all = must(tracks.Union(all, l))
			}
			l, e := tracks.Ends(y, v)
			if !slices.Equal(l, all) || (e == api.OK) != (len(all) > 0) {
				t.Fatal(y, v, l, all, e)
			}
			seen += len(l)
		}
	}
	enough(t, seen, 300)
}

// TestNarrower is P4.10.
func TestNarrower(t *testing.T) {
	x := newDice(22)
	less := 0
	for y := range x.tracks(300) {
		z := must(tracks.Part(y, 0, len(y.Stages)-1))
		nodes := z.Stages[x.IntN(len(z.Stages))]
		n := &nodes[x.IntN(len(nodes))]
		if x.IntN(2) == 0 || len(n.Next) == 0 {
			n.Allowed = must(tracks.Meet(n.Allowed, x.set(-2, 3)))
		} else {
			s := &n.Next[x.IntN(len(n.Next))].Change
			s.Lo = x.from(s.Lo, s.Hi)
			s.Hi = x.from(s.Lo, s.Hi)
		}
		wide, narrow := must(tracks.All(y)), must(tracks.All(z))
		for i, nodes := range narrow {
			for k, l := range nodes {
				if both := must(tracks.Meet(wide[i][k], l)); !slices.Equal(both, l) {
					t.Fatal(y, z, wide, narrow)
				}
			}
		}
		if !isSame(wide, narrow) {
			less++
		}
	}
	enough(t, less, 80)
}

// mixed returns for each stage the value at a rank among those of courses of a plain track.
func mixed(rank int, courses ...[]api.At) []api.At {
	var l []api.At
	for i := range courses[0] {
		var values []int
		for _, c := range courses {
			values = append(values, c[i].Value)
		}
		slices.Sort(values)
		l = append(l, at(0, values[rank]))
	}
	return l
}

// TestPlainTracks is P4.11, as to courses.
func TestPlainTracks(t *testing.T) {
	x := newDice(23)
	seen := 0
	for range 400 {
		y := x.plain(x.from(1, 5))
		courses := coursesOf(y)
		if len(courses) == 0 {
			continue
		}
		for range 10 {
			pick := func() []api.At { return courses[x.IntN(len(courses))] }
			a, b, c := pick(), pick(), pick()
			for _, l := range [][]api.At{mixed(0, a, b), mixed(1, a, b), mixed(1, a, b, c)} {
				if e := tracks.Keeps(y, l); e != api.OK {
					t.Fatal(y, a, b, c, l)
				}
			}
		}
		for stage := range y.Stages {
			if l := must(tracks.Values(y, stage)); len(l) != 1 {
				t.Fatal(y, l)
			}
		}
		seen++
	}
	enough(t, seen, 100)
}

// TestLimitsOfPlainTracks is the rest of P4.11: what can be kept two by two can be kept all together.
func TestLimitsOfPlainTracks(t *testing.T) {
	x := newDice(24)
	together, not := 0, 0
	for range 1000 {
		y := x.plain(x.from(2, 5))
		var l []api.Limit
		for range 3 {
			stage := x.IntN(len(y.Stages))
			s, e := tracks.Span(y, stage)
			if e != api.OK {
				break
			}
			low := x.from(s.Lo-1, s.Hi)
			l = append(l, limit(stage, span(low, low+x.IntN(3))))
		}
		if len(l) == 0 {
			continue
		}
		keeps := func(l ...api.Limit) bool { return must(tracks.Feasible(must(tracks.Fix(y, l)))) }
		pairs := keeps(l[0], l[1]) && keeps(l[0], l[2]) && keeps(l[1], l[2])
		if all := keeps(l...); all != pairs {
			t.Fatal(y, l, all)
		}
		if pairs {
			together++
		} else {
			not++
		}
	}
	enough(t, together, 50)
	enough(t, not, 50)
}

// TestSets is P4.12.
func TestSets(t *testing.T) {
	x := newDice(25)
	for range 2000 {
		a, b := x.set(-3, 3+x.IntN(60)), x.set(-2, 4+x.IntN(60))
		var either, both []int
		for n := -5; n <= 70; n++ {
			if has(a, n) || has(b, n) {
				either = append(either, n)
			}
			if has(a, n) && has(b, n) {
				both = append(both, n)
			}
		}
		for _, pair := range [][2][]api.Span{{a, b}, {b, a}} {
			if l := must(tracks.Union(pair[0], pair[1])); !slices.Equal(l, setOf(either)) {
				t.Fatal(a, b, l)
			}
			if l := must(tracks.Meet(pair[0], pair[1])); !slices.Equal(l, setOf(both)) {
				t.Fatal(a, b, l)
			}
		}
		if !slices.Equal(must(tracks.Union(a, a)), a) || !slices.Equal(must(tracks.Meet(a, a)), a) {
			t.Fatal(a)
		}
	}
}
