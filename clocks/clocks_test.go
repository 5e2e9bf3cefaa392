package clocks_test

import (
	"math"
	"slices"
	"testing"

	"aneroid/api"
	"aneroid/clocks"
)

func TestCheck(t *testing.T) {
	smallest := api.Drum{Rates: []api.Span{span(1, 1)}}
	still := api.Drum{Rates: []api.Span{span(40, 40)}, Stops: []api.Stop{stop(0, 0, 0), stop(0, 400, 400)}}
	for i, d := range []api.Drum{example(), smallest, still, slow(), largest()} {
		if e := clocks.Check(d); e != api.OK {
			t.Error(i, e)
		}
	}
	for i, d := range append(badDrums(), api.Drum{}) {
		if e := clocks.Check(d); e != api.ErrDrum {
			t.Error(i, e)
		}
	}
}

func TestCheckMarks(t *testing.T) {
	good := []api.Mark{mark(0, 0, 0), mark(3, 400, 400), mark(1, 0, 400)}
	for i, m := range [][]api.Mark{nil, {}, good, clashing(), make([]api.Mark, api.MaxMarks)} {
		if e, at := clocks.CheckMarks(example(), m); e != api.OK || at != 0 {
			t.Error(i, e, at)
		}
	}
	for i, bad := range badMarks() {
		if e, at := clocks.CheckMarks(example(), append(marks(), bad, bad)); e != api.ErrMark || at != 2 {
			t.Error(i, e, at)
		}
	}
	full := make([]api.Mark, api.MaxMarks+1)
	full[1].Column, full[api.MaxMarks].Column = -1, -1
	if e, at := clocks.CheckMarks(example(), full); e != api.ErrLimit || at != 0 {
		t.Error(e, at)
	}
	if e, at := clocks.CheckMarks(example(), full[2:]); e != api.ErrMark || at != api.MaxMarks-2 {
		t.Error(e, at)
	}
	for i, d := range badDrums() {
		if e, at := clocks.CheckMarks(d, append(marks(), badMarks()...)); e != api.ErrDrum || at != 0 {
			t.Error(i, e, at)
		}
	}
}

func TestGap(t *testing.T) {
	for c, want := range []api.Span{span(2, 3), span(2, 8), span(1, 4)} {
		if s, e := clocks.Gap(example(), c); s != want || e != api.OK {
			t.Error(c, s, e)
		}
	}
	if s, e := clocks.Gap(largest(), api.MaxColumns-2); s != span(1, 40+16*400) || e != api.OK {
		t.Error(s, e)
	}
	for _, c := range append(none(), 3, 4) {
		if s, e := clocks.Gap(example(), c); s != span(0, 0) || e != api.ErrArg {
			t.Error(c, s, e)
		}
	}
	for i, d := range badDrums() {
		if s, e := clocks.Gap(d, -1); s != span(0, 0) || e != api.ErrDrum {
			t.Error(i, s, e)
		}
	}
}

// TestErrors checks that the errors of all functions with marks come in the order of the chapter, with zero values.
func TestErrors(t *testing.T) {
	expect := func(f call, want api.Errno, d api.Drum, m []api.Mark) {
		t.Helper()
		if zero, e := f.do(d, m); e != want || !zero {
			t.Error(f.name, zero, e, want)
		}
	}
	for _, f := range slices.Concat(calls(), wrong()) {
		for _, d := range badDrums() {
			expect(f, api.ErrDrum, d, badMarks())
		}
		for _, bad := range badMarks() {
			expect(f, api.ErrMark, example(), append(clashing(), bad))
			expect(f, api.ErrMark, example(), []api.Mark{bad, mark(0, 0, 1)})
		}
		if f.name != "Agree" {
			expect(f, api.ErrMark, example(), make([]api.Mark, api.MaxMarks+1))
		}
	}
	for _, f := range wrong() {
		expect(f, api.ErrArg, example(), marks())
		expect(f, api.ErrArg, example(), clashing())
	}
	for _, f := range calls() {
		if f.times {
			expect(f, api.ErrTime, example(), clashing())
			expect(f, api.ErrTime, slow(), []api.Mark{mark(0, 0, 400)})
		}
	}
}

func TestKeeps(t *testing.T) {
	for i, ticks := range [][]int{{10, 12, 16, 20}, {12, 15, 21, 22}, {12, 14, 16, 20}, {10, 13, 21, 22}} {
		if e := clocks.Keeps(example(), marks(), ticks); e != api.OK {
			t.Error(i, e)
		}
	}
	for i, ticks := range [][]int{
		nil, {10, 12, 16}, {10, 12, 16, 20, 21},
		{9, 12, 16, 20}, {13, 15, 18, 20}, {12, 15, 20, 19}, {12, 15, 20, 23},
		{10, 11, 16, 20}, {10, 14, 16, 20}, {12, 15, 16, 20}, {10, 12, 21, 22}, {12, 15, 20, 20}, {10, 12, 15, 20},
		{-1, 12, 16, 20}, {10, 12, 16, 401}, {math.MinInt, math.MaxInt, math.MinInt, math.MaxInt},
	} {
		if e := clocks.Keeps(example(), marks(), ticks); e != api.ErrTime {
			t.Error(i, e)
		}
	}
	one := api.Drum{Rates: []api.Span{span(1, 1)}}
	for _, c := range []struct {
		ticks []int
		want  api.Errno
	}{{[]int{0, 1}, api.OK}, {[]int{399, 400}, api.OK}, {[]int{-1, 0}, api.ErrTime}, {[]int{400, 401}, api.ErrTime}, {[]int{math.MaxInt, math.MinInt}, api.ErrTime}} {
		if e := clocks.Keeps(one, nil, c.ticks); e != c.want {
			t.Error(c.ticks, e)
		}
	}
}

func TestFeasible(t *testing.T) {
	for i, c := range []struct {
		d    api.Drum
		m    []api.Mark
		want bool
	}{
		{example(), nil, true}, {example(), marks(), true}, {example(), clashing(), false}, {slow(), nil, false}, {largest(), nil, true},
		{example(), []api.Mark{mark(1, 5, 7), mark(1, 7, 9)}, true}, {example(), []api.Mark{mark(1, 5, 7), mark(1, 8, 9)}, false},
		{example(), []api.Mark{mark(3, 0, 4)}, false}, {example(), []api.Mark{mark(3, 0, 5)}, true},
		{example(), []api.Mark{mark(0, 396, 400)}, false}, {example(), []api.Mark{mark(0, 395, 400)}, true},
	} {
		if ok, e := clocks.Feasible(c.d, c.m); ok != c.want || e != api.OK {
			t.Error(i, ok, e)
		}
	}
}

func TestExamples(t *testing.T) {
	d, m := example(), marks()
	first, last := must(clocks.Earliest(d, m)), must(clocks.Latest(d, m))
	for i, c := range []struct {
		have []int
		want []int
	}{
		{first, []int{10, 12, 16, 20}},
		{last, []int{12, 15, 21, 22}},
		{must(clocks.With(d, m, 2, 21)), []int{10, 13, 21, 22}},
		{must(clocks.Median(d, m, first, last, []int{12, 14, 16, 20})), []int{12, 14, 16, 20}},
		{must(clocks.Contradiction(d, clashing())), []int{0, 2}},
	} {
		if !slices.Equal(c.have, c.want) {
			t.Error(i, c.have, c.want)
		}
	}
	for i, c := range []struct {
		have api.Span
		want api.Span
	}{
		{must(clocks.Between(d, m, 1, 3)), span(5, 10)},
		{must(clocks.Between(d, m, 3, 1)), span(-10, -5)},
		{must(clocks.At(d, m, 9)), span(-1, -1)},
		{must(clocks.At(d, m, 16)), span(1, 2)},
		{must(clocks.At(d, m, 22)), span(3, 3)},
	} {
		if c.have != c.want {
			t.Error(i, c.have, c.want)
		}
	}
	if l, e := clocks.With(d, m, 2, 22); len(l) != 0 || e != api.ErrNone {
		t.Error(l, e)
	}
	if l, e := clocks.Run(d, m, 12); !slices.Equal(l, []api.Span{span(12, 12), span(14, 15), span(16, 21), span(20, 22)}) || e != api.OK {
		t.Error(l, e)
	}
	if l, e := clocks.Run(d, m, 13); len(l) != 0 || e != api.ErrNone {
		t.Error(l, e)
	}
}

func TestDrift(t *testing.T) {
	even := api.Drum{Rates: slices.Repeat([]api.Span{span(2, 4)}, 6)}
	for i, c := range []struct {
		d         api.Drum
		m         []api.Mark
		a, b      int
		low, high api.Ratio
	}{
		{example(), marks(), 1, 3, api.Ratio{Num: 5, Den: 2}, api.Ratio{Num: 5, Den: 1}},
		{example(), nil, 0, 3, api.Ratio{Num: 5, Den: 3}, api.Ratio{Num: 5, Den: 1}},
		{even, nil, 0, 6, api.Ratio{Num: 2, Den: 1}, api.Ratio{Num: 4, Den: 1}},
		{even, []api.Mark{mark(0, 10, 10), mark(6, 25, 28)}, 0, 6, api.Ratio{Num: 5, Den: 2}, api.Ratio{Num: 3, Den: 1}},
		{even, []api.Mark{mark(0, 10, 10), mark(6, 26, 27)}, 0, 6, api.Ratio{Num: 8, Den: 3}, api.Ratio{Num: 17, Den: 6}},
		{largest(), nil, 0, 199, api.Ratio{Num: 1, Den: 1}, api.Ratio{Num: 400, Den: 199}},
	} {
		if low, high, e := clocks.Drift(c.d, c.m, c.a, c.b); low != c.low || high != c.high || e != api.OK {
			t.Error(i, low, high, e)
		}
	}
}

func TestWind(t *testing.T) {
	d, e := clocks.Wind(example(), stop(2, 1, 1))
	if e != api.OK || !slices.Equal(d.Rates, example().Rates) || !slices.Equal(d.Stops, []api.Stop{stop(1, 0, 5), stop(2, 1, 1)}) {
		t.Error(d, e)
	}
	if s := must(clocks.Gap(d, 2)); s != span(2, 5) {
		t.Error(s)
	}
	almost := example()
	almost.Stops = slices.Repeat(almost.Stops, api.MaxStops-1)
	full, e := clocks.Wind(almost, stop(0, 0, 400))
	if e != api.OK || len(full.Stops) != api.MaxStops || full.Stops[api.MaxStops-1] != stop(0, 0, 400) {
		t.Error(full, e)
	}
	bad := []api.Stop{stop(-1, 0, 0), stop(3, 0, 0), stop(0, -1, 0), stop(0, 1, 0), stop(0, 0, 401), stop(math.MaxInt, math.MinInt, math.MaxInt)}
	for i, s := range bad {
		if d, e := clocks.Wind(example(), s); len(d.Rates)+len(d.Stops) != 0 || e != api.ErrArg {
			t.Error(i, d, e)
		}
		if d, e := clocks.Wind(full, s); len(d.Rates)+len(d.Stops) != 0 || e != api.ErrLimit {
			t.Error(i, d, e)
		}
		for _, spoilt := range badDrums() {
			if d, e := clocks.Wind(spoilt, s); len(d.Rates)+len(d.Stops) != 0 || e != api.ErrDrum {
				t.Error(i, d, e)
			}
		}
	}
	if d, e := clocks.Wind(full, stop(0, 0, 0)); len(d.Rates)+len(d.Stops) != 0 || e != api.ErrLimit {
		t.Error(d, e)
	}
}

// TestMemory checks that results share no memory with arguments, and that arguments are not changed.
func TestMemory(t *testing.T) {
	rates, stops := make([]api.Span, 3, 8), make([]api.Stop, 1, 8)
	copy(rates, example().Rates)
	copy(stops, example().Stops)
	d := api.Drum{Rates: rates, Stops: stops}
	m := append(make([]api.Mark, 0, 8), clashing()...)
	wound := must(clocks.Wind(d, stop(2, 1, 1)))
	if stops[:2][1] != (api.Stop{}) {
		t.Error("the drum's memory is used")
	}
	wound.Rates[0], wound.Stops[0] = span(7, 7), stop(0, 7, 7)
	for _, f := range slices.Concat(calls(), wrong()) {
		f.do(d, m)
		f.do(d, m[:2])
	}
	if !slices.Equal(rates, example().Rates) || !slices.Equal(stops, example().Stops) || !slices.Equal(m, clashing()) || m[:4][3] != (api.Mark{}) {
		t.Error("an argument is changed")
	}
	l := must(clocks.Pairs(d, m))
	l[0][0] = 7
	l[0] = append(l[0], 8)
	if !sameSets(l, [][]int{{7, 2, 8}, {1, 2}}) || !sameSets(must(clocks.Pairs(d, m)), [][]int{{0, 2}, {1, 2}}) {
		t.Error(l)
	}
}

func TestLargest(t *testing.T) {
	d := largest()
	var m []api.Mark
	for i := range api.MaxMarks {
		m = append(m, mark(3*i, 3*i+i%2, 6*i+1))
	}
	first, last := must(clocks.Earliest(d, m)), must(clocks.Latest(d, m))
	for c := range first {
		if s := must(clocks.Span(d, m, c)); s != span(first[c], last[c]) {
			t.Error(c, s)
		}
	}
	if e := clocks.Keeps(d, m, first); e != api.OK {
		t.Error(e)
	}
	if e := clocks.Keeps(d, m, last); e != api.OK {
		t.Error(e)
	}
	none := api.Drum{Rates: slices.Repeat([]api.Span{span(3, 40)}, api.MaxColumns-1)}
	if set, e := clocks.Contradiction(none, m); len(set) != 0 || e != api.OK {
		t.Error(set, e)
	}
	for i := range m {
		m[i] = mark(i, 200+i%2, 200+i%2)
	}
	want := 0
	for a := range m {
		for b := a + 1; b < len(m); b++ {
			if a%2 >= b%2 || b-a > 1 {
				want++
			}
		}
	}
	if l := must(clocks.Pairs(d, m)); len(l) != want {
		t.Error(len(l), want)
	}
}
