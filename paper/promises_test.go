package paper_test

import (
	"slices"
	"testing"

	"aneroid/api"
	"aneroid/paper"
)

// P1.2
func TestLevelsAndHeights(t *testing.T) {
	d := newDice(2)
	for range 300 {
		p := d.paper()
		next := 0
		for level := p.Low; level <= p.High; level++ {
			heights, e := paper.Heights(p, level)
			if e != api.OK || heights.Lo != next || heights.Hi < heights.Lo {
				t.Fatal(p, level, heights, e)
			}
			next = heights.Hi + 1
			for y := heights.Lo; y <= heights.Hi; y++ {
				if n, e := paper.Level(p, y); n != level || e != api.OK {
					t.Fatal(p, y, n, e)
				}
			}
		}
		if next != p.Height+1 {
			t.Fatal(p, next)
		}
		last := p.Low
		for y := range p.Height + 1 {
			n, _ := paper.Level(p, y)
			if n < last || n > last+1 || y == 0 && n != p.Low || y == p.Height && n != p.High {
				t.Fatal(p, y, n)
			}
			last = n
		}
	}
}

// P1.3
func TestArcsAreEven(t *testing.T) {
	d := newDice(3)
	large, odd := largest(), largest()
	large.Height, large.Radius = 40000, 40000
	odd.Height, odd.Radius = 39999, 50001
	papers := []api.Paper{large, odd}
	for range 300 {
		papers = append(papers, d.paper())
	}
	for _, p := range papers {
		middle, _ := paper.Arc(p, p.Height/2)
		last := 0
		for y := range p.Height + 1 {
			n, e := paper.Arc(p, y)
			m, _ := paper.Arc(p, p.Height-y)
			if e != api.OK || n != m || n > middle || n-last > 1 || last-n > 1 {
				t.Fatal(p, y, n, m, e)
			}
			last = n
		}
	}
}

// P1.4
func TestMeansExactly(t *testing.T) {
	d := newDice(4)
	twice := 0
	for range 3000 {
		p := d.paper()
		at := d.point(p)
		if d.IntN(3) == 0 {
			p, at = d.crossed()
		}
		want := meansOf(p, at)
		columns, e := paper.Columns(p, at)
		if e == api.ErrNone {
			columns = span(0, -1)
		}
		for c := range p.Columns {
			l, e := paper.Means(p, at, c)
			if e != api.OK || !slices.Equal(l, setOf(want[c])) {
				t.Fatal(p, at, c, l, e, want[c])
			}
			if len(l) > 2 || (len(l) > 0) != (columns.Lo <= c && c <= columns.Hi) {
				t.Fatal(p, at, c, l, columns)
			}
			twice += len(l) / 2
		}
		heights, _ := paper.Across(p, at)
		levels, e := paper.Levels(p, at)
		if heights.Lo > p.Height && e != api.ErrNone || heights.Lo <= p.Height && levels != span(levelAt(p, heights.Lo), levelAt(p, min(heights.Hi, p.Height))) {
			t.Fatal(p, at, levels, e)
		}
	}
	if twice < 100 {
		t.Error("too few time lines are crossed twice:", twice)
	}
}

// P1.4, height by height
func TestMeansExactlyOnLargePapers(t *testing.T) {
	d := newDice(14)
	for range 60 {
		p := largest()
		p.Pitch, p.Height = d.from(1, 3000), d.from(1000, api.MaxPaper)
		p.Radius = d.from(p.Height, 2*p.Height)
		p.Low = d.from(0, 11000)
		p.High = p.Low + d.from(1, 1000)
		at := api.Point{X: d.from(0, min(p.Pitch*p.Columns, api.MaxPaper)), Y: d.from(0, p.Height), Half: d.from(0, 5000)}
		want := make([]map[int]bool, p.Columns)
		least, greatest := max(0, floor((at.X-at.Half)*1000, p.Along.Hi)), floor((at.X+at.Half)*1000, p.Along.Lo)
		for y := max(0, floor((at.Y-at.Half)*1000, p.Across.Hi)); y <= min(p.Height, floor((at.Y+at.Half)*1000, p.Across.Lo)); y++ {
			arc := floor(y*(p.Height-y), 2*p.Radius)
			for c := max(0, floor(least-arc, p.Pitch)); c < p.Columns && c <= floor(greatest-arc, p.Pitch); c++ {
				if want[c] == nil {
					want[c] = map[int]bool{}
				}
				want[c][levelAt(p, y)] = true
			}
		}
		columns, e := paper.Columns(p, at)
		if e == api.ErrNone {
			columns = span(0, -1)
		}
		for c := range p.Columns {
			l, e := paper.Means(p, at, c)
			if e != api.OK || !slices.Equal(l, setOf(want[c])) || (len(l) > 0) != (columns.Lo <= c && c <= columns.Hi) {
				t.Fatal(p, at, c, l, e, want[c], columns)
			}
		}
	}
}

// P1.5
func TestShrinkingAndReading(t *testing.T) {
	d := newDice(5)
	for range 5000 {
		p := d.paper()
		size := 400
		if d.IntN(2) == 0 {
			size = 360000
		}
		was := api.Point{X: d.from(0, size), Y: d.from(0, size), Half: d.from(1, 9)}
		along, across := d.from(p.Along.Lo, p.Along.Hi), d.from(p.Across.Lo, p.Across.Hi)
		at, e := paper.Shrink(p, was, along, across)
		if e != api.OK {
			t.Fatal(p, was, e)
		}
		xs, _ := paper.Along(p, at)
		ys, _ := paper.Across(p, at)
		if was.X < xs.Lo || was.X > xs.Hi || was.Y < ys.Lo || was.Y > ys.Hi {
			t.Fatal(p, was, at, xs, ys)
		}
		for _, known := range [][2]int{{was.X, was.Y}, {was.X, -1}, {-1, was.Y}} {
			q, e := paper.Calibrate(p, known[0], known[1], at)
			if e != api.OK || along < q.Along.Lo || along > q.Along.Hi || across < q.Across.Lo || across > q.Across.Hi {
				t.Fatal(p, was, at, q, e)
			}
			if q.Along.Lo < p.Along.Lo || q.Along.Hi > p.Along.Hi || q.Across.Lo < p.Across.Lo || q.Across.Hi > p.Across.Hi {
				t.Fatal("less is known:", p, q)
			}
		}
	}
}

// P1.6
func TestNarrowerMeansNoMore(t *testing.T) {
	d := newDice(6)
	for range 2000 {
		p := d.paper()
		at := d.point(p)
		q, thin := p, at
		q.Along, q.Across = d.spanIn(p.Along.Lo, p.Along.Hi), d.spanIn(p.Across.Lo, p.Across.Hi)
		thin.Half = d.from(0, at.Half)
		for c := range p.Columns {
			wide, _ := paper.Means(p, at, c)
			narrow, e := paper.Means(q, thin, c)
			all := numbersOf(wide)
			for n := range numbersOf(narrow) {
				if e != api.OK || !all[n] {
					t.Fatal(p, q, at, thin, c, n, e)
				}
			}
		}
	}
}

// P1.7
func TestSheetsAreTheirPoints(t *testing.T) {
	d := newDice(7)
	for range 500 {
		p := d.paper()
		l := d.trace(p, d.from(0, 12))
		x, e := paper.Ink(p, l, nil)
		if e != api.OK {
			continue
		}
		for c := range p.Columns {
			all := map[int]bool{}
			for _, at := range l {
				means, _ := paper.Means(p, at, c)
				for n := range numbersOf(means) {
					all[n] = true
				}
			}
			if !slices.Equal(x.Columns[c], setOf(all)) {
				t.Fatal(p, l, c, x.Columns[c], all)
			}
		}
		doubled := append(slices.Clone(l), l...)
		d.Shuffle(len(doubled), func(i, j int) { doubled[i], doubled[j] = doubled[j], doubled[i] })
		if y, e := paper.Ink(p, doubled, nil); e != api.OK || !sameInk(x, y) {
			t.Fatal(p, l, x, y, e)
		}
		more, e := paper.Ink(p, append(slices.Clone(l), d.point(p)), nil)
		for c := range more.Columns {
			all := numbersOf(more.Columns[c])
			for n := range numbersOf(x.Columns[c]) {
				if !all[n] {
					t.Fatal(p, l, c, n, e)
				}
			}
		}
	}
}

// P1.8
func TestCopies(t *testing.T) {
	d := newDice(8)
	met := 0
	for range 20000 {
		n := d.from(1, 3)
		a, b, c := d.inked(n), d.inked(n), d.inked(n)
		if !sameInk(both(t, a, a), a) || !sameInk(either(t, a, a), a) || !within(t, a, a) {
			t.Fatal(a)
		}
		ab, e := paper.Both(a, b)
		ba, f := paper.Both(b, a)
		if e != f || !sameInk(ab, ba) {
			t.Fatal(a, b, ab, ba, e, f)
		}
		one := either(t, a, b)
		if !sameInk(one, either(t, b, a)) || !sameInk(either(t, one, c), either(t, a, either(t, b, c))) || !sameInk(both(t, a, one), a) {
			t.Fatal(a, b, c, one)
		}
		less := within(t, a, b)
		if less != (e == api.OK && sameInk(ab, a)) || less != sameInk(one, b) {
			t.Fatal(a, b, ab, one, less)
		}
		if e != api.OK {
			continue
		}
		met++
		if !sameInk(either(t, a, ab), a) || !within(t, ab, a) || !within(t, ab, b) || within(t, c, a) && within(t, c, b) && !within(t, c, ab) {
			t.Fatal(a, b, c, ab)
		}
		left, e := paper.Both(ab, c)
		if bc, f := paper.Both(b, c); e == api.OK && f == api.OK && !sameInk(left, both(t, a, bc)) {
			t.Fatal(a, b, c, left)
		}
	}
	if met < 1000 {
		t.Error("too few copies agree:", met)
	}
}

// P1.9
func TestBlotsTakeTheirColumns(t *testing.T) {
	d := newDice(9)
	for range 500 {
		p := d.paper()
		l := d.trace(p, d.from(0, 12))
		var few, many []int
		for c := range p.Columns {
			if d.IntN(3) == 0 {
				few = append(few, c)
			}
			if slices.Contains(few, c) || d.IntN(3) == 0 {
				many = append(many, c)
			}
		}
		x, e := paper.Ink(p, l, few)
		y, f := paper.Ink(p, l, many)
		if e != api.OK {
			continue
		}
		if f != api.OK || !within(t, x, y) {
			t.Fatal(p, l, few, many, f)
		}
		for c := range p.Columns {
			if slices.Contains(many, c) && len(y.Columns[c]) > 0 || !slices.Contains(many, c) && !slices.Equal(x.Columns[c], y.Columns[c]) {
				t.Fatal(p, l, many, c, x, y)
			}
		}
	}
}
