package pens_test

import (
	"math"
	"slices"
	"testing"

	"aneroid/api"
	"aneroid/pens"
)

func TestCheck(t *testing.T) {
	least := api.Pen{Zero: span(-200, -160)}
	for i, p := range []api.Pen{{}, example(), largest(), least} {
		if e := pens.Check(p); e != api.OK {
			t.Error(i, e)
		}
	}
	for i, p := range badPens() {
		if e := pens.Check(p); e != api.ErrPen {
			t.Error(i, e)
		}
	}
}

// A call is a function of the chapter with a pen. Its result counts as zero if it has only zero values beside the error.
type call struct {
	name string
	do   func(p api.Pen) (zero bool, e api.Errno)
}

// wrong are calls of all functions with a pen but Check and Add, each with arguments that are not valid for the pen of the examples.
func wrong() []call {
	var l []call
	add := func(name string, do func(p api.Pen) (bool, api.Errno)) { l = append(l, call{name, do}) }
	for _, n := range noLevels() {
		add("Starts", func(p api.Pen) (bool, api.Errno) { return zero(pens.Starts(p, n)) })
		add("Step", func(p api.Pen) (bool, api.Errno) { return zero(pens.Step(p, moment(n, 10), 10)) })
		add("Step", func(p api.Pen) (bool, api.Errno) { return zero(pens.Step(p, moment(10, n), 10)) })
		add("Step", func(p api.Pen) (bool, api.Errno) { return zero(pens.Step(p, moment(10, 13), n)) })
		add("Follow", func(p api.Pen) (bool, api.Errno) { return zeroList(pens.Follow(p, n, []int{10, 20})) })
		add("Keeps", func(p api.Pen) (bool, api.Errno) {
			return true, pens.Keeps(p, []api.Moment{moment(10, 13), moment(10, n)})
		})
		add("Keeps", func(p api.Pen) (bool, api.Errno) {
			return true, pens.Keeps(p, []api.Moment{moment(n, 10), moment(10, 13)})
		})
		add("Zeros", func(p api.Pen) (bool, api.Errno) { return zero(pens.Zeros(p, n, span(0, 1))) })
		add("Zeros", func(p api.Pen) (bool, api.Errno) { return zero(pens.Zeros(p, 0, span(n, 1))) })
		add("Zeros", func(p api.Pen) (bool, api.Errno) { return zero(pens.Zeros(p, 0, span(0, n))) })
	}
	for _, n := range []int{-3, 3, math.MinInt, math.MaxInt} {
		add("Moves", func(p api.Pen) (bool, api.Errno) { return zeroList(pens.Moves(p, n)) })
	}
	for _, count := range []int{0, api.MaxTicks + 2} {
		add("Keeps", func(p api.Pen) (bool, api.Errno) { return true, pens.Keeps(p, make([]api.Moment, count)) })
	}
	for _, n := range noLists() {
		add("Follow", func(p api.Pen) (bool, api.Errno) { return zeroList(pens.Follow(p, 20, n)) })
		add("Reals", func(p api.Pen) (bool, api.Errno) { return zeroList(pens.Reals(p, n)) })
		add("Real", func(p api.Pen) (bool, api.Errno) { return zeroList(pens.Real(p, n)) })
		add("Lowest", func(p api.Pen) (bool, api.Errno) { return zeroList(pens.Lowest(p, n)) })
		add("Highest", func(p api.Pen) (bool, api.Errno) { return zeroList(pens.Highest(p, n)) })
		add("Stuck", func(p api.Pen) (bool, api.Errno) { return zeroList(pens.Stuck(p, n)) })
		add("Forgets", func(p api.Pen) (bool, api.Errno) { return zero(pens.Forgets(p, n)) })
		add("Memory", func(p api.Pen) (bool, api.Errno) { return zeroList(pens.Memory(p, n)) })
	}
	return l
}

func zero[T comparable](value T, e api.Errno) (bool, api.Errno) {
	var none T
	return value == none, e
}

func zeroList[T any](l []T, e api.Errno) (bool, api.Errno) { return len(l) == 0, e }

// TestErrors checks that ErrPen comes ahead of ErrArg, and this ahead of ErrStuck and ErrNone, with zero values.
func TestErrors(t *testing.T) {
	for i, f := range wrong() {
		for _, p := range badPens() {
			if zero, e := f.do(p); e != api.ErrPen || !zero {
				t.Error(i, f.name, p, zero, e)
			}
		}
		if zero, e := f.do(example()); e != api.ErrArg || !zero {
			t.Error(i, f.name, zero, e)
		}
	}
	for _, l := range noLists() {
		s, e := pens.Swing(l)
		expectError(t, s == span(0, 0), e, api.ErrArg)
		indices, e := pens.Turns(l)
		expectError(t, len(indices) == 0, e, api.ErrArg)
	}
}

func TestStarts(t *testing.T) {
	for i, c := range []struct {
		p    api.Pen
		real int
		want api.Span
	}{
		{example(), 10, span(8, 12)}, {pen(0, 0), -7, span(-7, -7)},
		{largest(), most, span(most-8, most+8)}, {largest(), -most, span(-most-8, 8-most)},
	} {
		if s, e := pens.Starts(c.p, c.real); s != c.want || e != api.OK {
			t.Error(i, s, e)
		}
	}
}

func TestStep(t *testing.T) {
	for i, c := range []struct {
		p    api.Pen
		m    api.Moment
		real int
		want api.Moment
	}{
		{example(), moment(10, 12), 12, moment(10, 12)},
		{example(), moment(10, 12), 17, moment(15, 17)},
		{example(), moment(10, 12), 13, moment(11, 13)},
		{example(), moment(10, 12), 8, moment(10, 8)},
		{example(), moment(10, 12), 7, moment(9, 7)},
		{example(), moment(10, 8), 3, moment(5, 3)},
		{example(), moment(10, 8), 13, moment(11, 13)},
		{pen(0, 3), moment(10, 10), 13, moment(13, 13)},
		{pen(1, 0), moment(10, 11), 11, moment(10, 11)},
		{pen(1, 3), moment(5, 5), 7, moment(6, 7)},
		{pen(1, 3), moment(6, 7), 4, moment(5, 4)},
		{largest(), moment(most, most), most - 12000, moment(most-12000+8, most-12000)},
		{largest(), moment(-most, 8-most), 8 - most + 12000, moment(12000-most, 8-most+12000)},
	} {
		if m, e := pens.Step(c.p, c.m, c.real); m != c.want || e != api.OK {
			t.Error(i, m, e)
		}
	}
	for _, c := range []struct {
		m    api.Moment
		real int
	}{{moment(10, 12), 18}, {moment(10, 12), 6}, {moment(10, 13), 13}, {moment(10, 7), 7}, {moment(-most, most), most}, {moment(most, most), -most}} {
		m, e := pens.Step(example(), c.m, c.real)
		expectError(t, m == moment(0, 0), e, api.ErrStuck)
	}
}

func TestFollow(t *testing.T) {
	p := example()
	for _, c := range []struct {
		p     api.Pen
		first int
		real  []int
		want  []int
	}{
		{p, 10, []int{10, 12, 13, 11, 8}, []int{10, 10, 11, 11, 10}},
		{p, 12, []int{10}, []int{12}},
		{p, 8, []int{10, 5, 0, -5}, []int{8, 7, 2, -3}},
		{pen(0, 5), 1, []int{1, 4, -1, 4}, []int{1, 4, -1, 4}},
		{pen(1, 3), 5, []int{5, 7, 4}, []int{5, 6, 5}},
		{largest(), most, []int{most, most - 12000}, []int{most, most - 11992}},
		{pen(8, 0), 7, slices.Repeat([]int{-1}, api.MaxTicks+1), slices.Repeat([]int{7}, api.MaxTicks+1)},
	} {
		l, e := pens.Follow(c.p, c.first, c.real)
		expectList(t, l, e, c.want...)
	}
	for _, c := range []struct {
		first int
		real  []int
	}{{10, []int{13}}, {10, []int{7, 8}}, {10, []int{10, 16}}, {10, []int{10, 12, 6, 6}}, {-most, []int{most}}} {
		l, e := pens.Follow(p, c.first, c.real)
		expectError(t, len(l) == 0, e, api.ErrStuck)
	}
}

func TestKeeps(t *testing.T) {
	p := example()
	for i, c := range []struct {
		l    []api.Moment
		want api.Errno
	}{
		{[]api.Moment{moment(10, 12)}, api.OK},
		{[]api.Moment{moment(10, 13)}, api.ErrStuck},
		{[]api.Moment{moment(10, 10), moment(10, 12), moment(11, 13), moment(11, 11), moment(10, 8)}, api.OK},
		{[]api.Moment{moment(10, 10), moment(11, 12)}, api.ErrStuck},
		{[]api.Moment{moment(10, 10), moment(10, 13)}, api.ErrStuck},
		{[]api.Moment{moment(10, 10), moment(12, 13)}, api.ErrStuck},
		{[]api.Moment{moment(10, 12), moment(16, 18)}, api.ErrStuck},
		{[]api.Moment{moment(10, 13), moment(11, 13)}, api.ErrStuck},
		{[]api.Moment{moment(10, 10), moment(10, 10), moment(9, 10)}, api.ErrStuck},
		{[]api.Moment{moment(most, -most)}, api.ErrStuck},
		{slices.Repeat([]api.Moment{moment(most, most-2)}, api.MaxTicks+1), api.OK},
	} {
		if e := pens.Keeps(p, c.l); e != c.want {
			t.Error(i, e)
		}
	}
}

func TestMoves(t *testing.T) {
	for _, c := range []struct {
		p      api.Pen
		offset int
		want   []api.Edge
	}{
		{example(), 1, []api.Edge{edge(0, -2, 0), edge(1, 0, 0), edge(2, 0, 0), edge(3, 0, 0), edge(4, 0, 4)}},
		{example(), 2, []api.Edge{edge(0, -1, 0), edge(1, 0, 0), edge(2, 0, 0), edge(3, 0, 0), edge(4, 0, 5)}},
		{example(), -2, []api.Edge{edge(0, -5, 0), edge(1, 0, 0), edge(2, 0, 0), edge(3, 0, 0), edge(4, 0, 1)}},
		{pen(2, 1), 0, []api.Edge{edge(1, 0, 0), edge(2, 0, 0), edge(3, 0, 0)}},
		{pen(2, 1), 1, []api.Edge{edge(2, 0, 0), edge(3, 0, 0), edge(4, 0, 0)}},
		{pen(2, 1), -2, []api.Edge{edge(0, -1, 0), edge(1, 0, 0)}},
		{pen(2, 0), -1, []api.Edge{edge(1, 0, 0)}},
		{pen(2, 0), 2, []api.Edge{edge(4, 0, 0)}},
		{pen(0, 5), 0, []api.Edge{edge(0, -5, 5)}},
		{pen(0, 0), 0, []api.Edge{edge(0, 0, 0)}},
		{pen(1, api.MaxLevel), 0, []api.Edge{edge(0, 1-api.MaxLevel, 0), edge(1, 0, 0), edge(2, 0, api.MaxLevel-1)}},
	} {
		l, e := pens.Moves(c.p, c.offset)
		expectList(t, l, e, c.want...)
	}
}

func TestReals(t *testing.T) {
	p := example()
	long := slices.Repeat([]int{10}, api.MaxTicks+1)
	for _, c := range []struct {
		p     api.Pen
		shown []int
		want  []api.Span
	}{
		{p, []int{10, 10, 11}, []api.Span{span(8, 12), span(8, 12), span(13, 13)}},
		{p, []int{10, 14}, []api.Span{span(11, 12), span(16, 16)}},
		{p, []int{10}, []api.Span{span(8, 12)}},
		{p, []int{10, 15}, []api.Span{span(12, 12), span(17, 17)}},
		{p, []int{15, 10}, []api.Span{span(13, 13), span(8, 8)}},
		{p, []int{10, 11, 10}, []api.Span{span(8, 12), span(13, 13), span(8, 8)}},
		{pen(8, 3), []int{1, 0, 0, 0}, []api.Span{span(-7, -5), span(-8, -8), span(-8, -5), span(-8, -2)}},
		{pen(8, 3), []int{0, 0, 0, -1}, []api.Span{span(-8, 0), span(-8, -3), span(-8, -6), span(-9, -9)}},
		{pen(2, 0), []int{7, 7}, []api.Span{span(5, 9), span(5, 9)}},
		{pen(0, 3), []int{7, 10, 8}, []api.Span{span(7, 7), span(10, 10), span(8, 8)}},
		{largest(), []int{most - 1, most}, []api.Span{span(most-9, most+7), span(most+8, most+8)}},
		{largest(), []int{1 - most, -most}, []api.Span{span(-most-7, 9-most), span(-most-8, -most-8)}},
		{p, long, slices.Repeat([]api.Span{span(8, 12)}, len(long))},
	} {
		l, e := pens.Reals(c.p, c.shown)
		expectList(t, l, e, c.want...)
	}
	for _, c := range []struct {
		p     api.Pen
		shown []int
	}{
		{p, []int{10, 17}}, {p, []int{10, 16}}, {p, []int{16, 10}}, {p, []int{10, 12, 10}},
		{pen(2, 0), []int{1, 2}}, {pen(0, 3), []int{1, 5}}, {pen(8, 3), []int{1, 0, 0, 0, 0, 1}}, {largest(), []int{-most, most}},
	} {
		reals, e := pens.Reals(c.p, c.shown)
		expectError(t, len(reals) == 0, e, api.ErrStuck)
		for _, f := range []func(api.Pen, []int) ([]int, api.Errno){pens.Lowest, pens.Highest, pens.Real} {
			l, e := f(c.p, c.shown)
			expectError(t, len(l) == 0, e, api.ErrStuck)
		}
	}
}

func TestLowestHighestReal(t *testing.T) {
	for _, c := range []struct {
		p                     api.Pen
		shown                 []int
		lowest, highest, real []int
	}{
		{example(), []int{10, 10, 11}, []int{8, 8, 13}, []int{12, 12, 13}, []int{10, 10, 13}},
		{example(), []int{10, 14}, []int{11, 16}, []int{12, 16}, []int{11, 16}},
		{example(), []int{14, 10}, []int{12, 8}, []int{13, 8}, []int{13, 8}},
		{pen(8, 3), []int{1, 0, 0, 0}, []int{-7, -8, -8, -8}, []int{-5, -8, -5, -2}, []int{-5, -8, -5, -2}},
		{largest(), []int{most - 1, most}, []int{most - 9, most + 8}, []int{most + 7, most + 8}, []int{most - 1, most + 8}},
	} {
		l, e := pens.Lowest(c.p, c.shown)
		expectList(t, l, e, c.lowest...)
		l, e = pens.Highest(c.p, c.shown)
		expectList(t, l, e, c.highest...)
		l, e = pens.Real(c.p, c.shown)
		expectList(t, l, e, c.real...)
	}
}

func TestZeros(t *testing.T) {
	for i, c := range []struct {
		p      api.Pen
		real   int
		levels api.Span
		want   api.Span
	}{
		{example(), 10131, span(10132, 10140), span(1, 1)},
		{example(), 10131, span(10131, 10131), span(0, 0)},
		{example(), 10131, span(-most, most), span(-1, 1)},
		{example(), 10131, span(10000, 10130), span(-1, -1)},
		{largest(), most - 200, span(most-20, most), span(180, 200)},
	} {
		s, e := pens.Zeros(c.p, c.real, c.levels)
		if s != c.want || e != api.OK {
			t.Error(i, s, e)
		}
	}
	for _, c := range []struct {
		p      api.Pen
		real   int
		levels api.Span
	}{
		{example(), 10131, span(10133, 10140)}, {example(), 10131, span(10000, 10129)}, {example(), 10131, span(10132, 10131)},
		{example(), 10131, span(10131, 10130)}, {example(), 10131, span(most, -most)},
		{largest(), most, span(most, most)}, {largest(), -most, span(most, most)},
	} {
		s, e := pens.Zeros(c.p, c.real, c.levels)
		expectError(t, s == span(0, 0), e, api.ErrNone)
	}
}

func TestStuck(t *testing.T) {
	for _, c := range []struct {
		shown []int
		want  []api.Span
	}{
		{[]int{10}, nil},
		{[]int{10, 11}, nil},
		{[]int{10, 10}, []api.Span{span(0, 1)}},
		{[]int{10, 11, 10, 10}, []api.Span{span(2, 3)}},
		{[]int{10, 10, 11}, []api.Span{span(0, 1)}},
		{[]int{1, 1, 2, 2, 2, 3, 1, 1, 4, 4, 4, 4}, []api.Span{span(0, 1), span(2, 4), span(6, 7), span(8, 11)}},
		{[]int{-most, most, most, -most, 0, 0, 1}, []api.Span{span(1, 2), span(4, 5)}},
		{make([]int, api.MaxTicks+1), []api.Span{span(0, api.MaxTicks)}},
	} {
		l, e := pens.Stuck(example(), c.shown)
		expectList(t, l, e, c.want...)
	}
}

func TestSwing(t *testing.T) {
	for i, c := range []struct {
		l    []int
		want api.Span
	}{
		{[]int{7}, span(7, 7)}, {[]int{3, -1, 4, 4}, span(-1, 4)}, {[]int{most, 0, -most}, span(-most, most)},
		{make([]int, api.MaxTicks+1), span(0, 0)},
	} {
		if s, e := pens.Swing(c.l); s != c.want || e != api.OK {
			t.Error(i, s, e)
		}
	}
}

func TestForgets(t *testing.T) {
	for i, c := range []struct {
		p    api.Pen
		real []int
		want int
		e    api.Errno
	}{
		{example(), []int{10, 13, 14, 9}, 2, api.OK},
		{example(), []int{10, 13, 9, 14}, 2, api.OK},
		{example(), []int{10, 13, 10, 13}, 0, api.ErrNone},
		{example(), []int{10}, 0, api.ErrNone},
		{pen(0, 5), []int{10}, 0, api.OK},
		{pen(0, 5), []int{10, 12}, 0, api.OK},
		{largest(), []int{most, most - 15}, 0, api.ErrNone},
		{largest(), []int{most, most - 16}, 1, api.OK},
		{largest(), []int{-most, 15 - most}, 0, api.ErrNone},
		{largest(), []int{-most, 16 - most}, 1, api.OK},
		{example(), []int{10, 16}, 0, api.ErrStuck},
		{example(), []int{10, 14, 14, 20}, 0, api.ErrStuck},
		{pen(0, 0), []int{10, 11}, 0, api.ErrStuck},
		{example(), []int{most, -most}, 0, api.ErrStuck},
	} {
		if n, e := pens.Forgets(c.p, c.real); n != c.want || e != c.e {
			t.Error(i, n, e)
		}
	}
}

func TestTurns(t *testing.T) {
	for _, c := range []struct{ l, want []int }{
		{[]int{1, 3, 3, 2, 5, 5}, []int{1, 3}},
		{[]int{1}, nil}, {[]int{1, 1}, nil}, {[]int{1, 1, 2, 2, 3}, nil}, {[]int{3, 2, 2, 1}, nil},
		{[]int{2, 2, 1, 1}, nil}, {[]int{2, 2, 1, 1, 2}, []int{2}}, {[]int{1, 2, 1, 2, 1}, []int{1, 2, 3}},
		{[]int{most, -most, most}, []int{1}},
	} {
		l, e := pens.Turns(c.l)
		expectList(t, l, e, c.want...)
	}
}

func TestMemory(t *testing.T) {
	p := example()
	for _, c := range []struct {
		p          api.Pen
		real, want []int
	}{
		{p, []int{10, 14, 12, 13}, []int{0, 1, 2, 3}},
		{p, []int{9, 14, 10, 13}, []int{1, 2, 3}},
		{p, []int{10}, []int{0}},
		{p, []int{10, 10, 10}, []int{2}},
		{p, []int{9, 11, 10, 11, 10, 10}, []int{0, 3, 5}},
		{p, []int{0, 90, 10, 13, 12}, []int{1, 2, 3, 4}},
		{pen(0, 5), []int{1, 2, 3}, []int{2}},
		{pen(1, 5), []int{5, 1, 2, 1}, []int{0, 2, 3}},
		{pen(1, 5), []int{9, 1, 3, 2}, []int{1, 2, 3}},
		{largest(), []int{-most, most, 0}, []int{1, 2}},
	} {
		l, e := pens.Memory(c.p, c.real)
		expectList(t, l, e, c.want...)
	}
}

func TestAdd(t *testing.T) {
	zeros := func(band, lo, hi, rate int) api.Pen { return api.Pen{Band: band, Zero: span(lo, hi), Rate: rate} }
	for i, c := range []struct{ p, q, want api.Pen }{
		{example(), zeros(3, 0, 2, 5), zeros(5, -1, 3, 5)},
		{example(), zeros(6, -10, 28, 12000), zeros(8, -11, 29, 5)},
		{zeros(8, 160, 200, 0), api.Pen{}, zeros(8, 160, 200, 0)},
		{api.Pen{}, api.Pen{}, api.Pen{}},
	} {
		if p, e := pens.Add(c.p, c.q); p != c.want || e != api.OK {
			t.Error(i, p, e)
		}
	}
	for _, bad := range badPens() {
		for _, c := range [][2]api.Pen{{bad, example()}, {example(), bad}, {bad, zeros(8, 0, 0, 0)}, {largest(), bad}} {
			p, e := pens.Add(c[0], c[1])
			expectError(t, p == api.Pen{}, e, api.ErrPen)
		}
	}
	for _, c := range []struct {
		p, q api.Pen
		want api.Errno
	}{
		{example(), zeros(0, 0, 0, 4), api.ErrArg}, {largest(), zeros(8, 200, 200, 11999), api.ErrArg},
		{example(), zeros(7, 0, 0, 5), api.ErrLimit}, {example(), zeros(0, 0, 39, 5), api.ErrLimit},
		{example(), zeros(0, 200, 200, 5), api.ErrLimit}, {example(), zeros(0, -200, -200, 5), api.ErrLimit},
	} {
		p, e := pens.Add(c.p, c.q)
		expectError(t, p == api.Pen{}, e, c.want)
	}
}

// TestArguments checks that arguments are not changed, and that results share no memory with them.
func TestArguments(t *testing.T) {
	for _, f := range []func(l []int) ([]int, api.Errno){
		func(l []int) ([]int, api.Errno) { return pens.Follow(example(), l[0], l) },
		func(l []int) ([]int, api.Errno) { return pens.Lowest(example(), l) },
		func(l []int) ([]int, api.Errno) { return pens.Highest(example(), l) },
		func(l []int) ([]int, api.Errno) { return pens.Real(example(), l) },
		func(l []int) ([]int, api.Errno) { return pens.Memory(example(), l) },
		pens.Turns,
	} {
		backing := []int{10, 10, 11, 10, 99, 99}
		result := must(f(backing[:4]))
		for i := range result {
			result[i] = 77
		}
		result = append(result, 77)
		if !slices.Equal(backing, []int{10, 10, 11, 10, 99, 99}) {
			t.Error(backing, result)
		}
	}
	moments := []api.Moment{moment(12, 10), moment(11, 9)}
	pens.Keeps(example(), moments)
	if !slices.Equal(moments, []api.Moment{moment(12, 10), moment(11, 9)}) {
		t.Error(moments)
	}
}
