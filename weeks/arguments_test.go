package weeks_test

import (
	"fmt"
	"math"
	"reflect"
	"slices"
	"testing"

	"aneroid/api"
	"aneroid/weeks"
)

// A call is a function of the chapter, with the arguments beside the week.
type call struct {
	name string
	do   func(w api.Week) (zero bool, e api.Errno)
}

// result reports whether a value is the zero value.
func result[T any](value T, e api.Errno) (bool, api.Errno) {
	var zero T
	return same(value, zero), e
}

// of is a call with a name.
func of[T any](name string, do func(w api.Week) (T, api.Errno)) call {
	return call{name, func(w api.Week) (bool, api.Errno) { return result(do(w)) }}
}

// plain are calls about a sheet by itself, without its track.
func plain(sheet int) []call {
	return []call{of("Inked", func(w api.Week) (api.Inked, api.Errno) { return weeks.Inked(w, sheet) })}
}

// alone are calls about a sheet by itself, which need its track.
func alone(sheet, zero int) []call {
	return []call{
		of("Track", func(w api.Week) (api.Track, api.Errno) { return weeks.Track(w, sheet, zero) }),
		of("Zeros", func(w api.Week) ([]int, api.Errno) { return weeks.Zeros(w, sheet) }),
		of("Alone", func(w api.Week) ([][]api.Span, api.Errno) { return weeks.Alone(w, sheet) }),
		of("Homes", func(w api.Week) ([]int, api.Errno) { return weeks.Homes(w, sheet) }),
	}
}

// regional are calls about a sheet in the region.
func regional(sheet, tick, level, rise int) []call {
	return []call{
		of("Levels", func(w api.Week) ([][]api.Span, api.Errno) { return weeks.Levels(w, sheet) }),
		of("Level", func(w api.Week) ([]api.Span, api.Errno) { return weeks.Level(w, sheet, tick) }),
		of("Columns", func(w api.Week) ([][]api.Span, api.Errno) { return weeks.Columns(w, sheet) }),
		of("Courses", func(w api.Week) ([]api.Course, api.Errno) { return weeks.Courses(w, sheet, tick, level) }),
		of("Front", func(w api.Week) (int, api.Errno) { return weeks.Front(w, sheet, tick, rise) }),
		of("Fronts", func(w api.Week) ([]int, api.Errno) { return weeks.Fronts(w, sheet, rise) }),
		of("Surely", func(w api.Week) (int, api.Errno) { return weeks.Surely(w, sheet, tick, tick+1, rise) }),
		of("Passages", func(w api.Week) ([][]int, api.Errno) { return weeks.Passages(w, sheet, 1-sheet, rise) }),
		of("Passages", func(w api.Week) ([][]int, api.Errno) { return weeks.Passages(w, 1-sheet, sheet, rise) }),
	}
}

// whole are calls about the whole region, of which those of claims come last.
func whole() []call {
	return []call{
		of("Terms", weeks.Terms), of("Whole", weeks.Whole), of("Misfiled", weeks.Misfiled),
		of("Core", weeks.Core), of("Drops", weeks.Drops),
	}
}

// free are calls that need no track.
func free(l []api.Claim) []call {
	return []call{
		of("Claims", weeks.Claims),
		of("Without", func(w api.Week) (api.Week, api.Errno) { return weeks.Without(w, l) }),
		{"Keeps", func(w api.Week) (bool, api.Errno) { return true, weeks.Keeps(w, make([]api.Course, 9)) }},
	}
}

func expectCalls(t *testing.T, what string, w api.Week, want api.Errno, calls []call) {
	t.Helper()
	for _, c := range calls {
		if zero, e := c.do(w); !zero || e != want {
			t.Error(what, c.name, zero, e, "not", want)
		}
	}
}

// TestInvalidWeeks checks that the error of Check comes first, whatever the other arguments are.
func TestInvalidWeeks(t *testing.T) {
	calls := slices.Concat(plain(9), alone(-1, 0), alone(0, 0), regional(9, 9, 0, 0), regional(0, 0, 0, 0), whole(), free([]api.Claim{{}}))
	for name, spoil := range spoilers() {
		w := clashing()
		spoil(&w)
		expectCalls(t, name, w, api.ErrWeek, calls)
	}
	for want, l := range stationFaults() {
		w := clashing()
		w.Base.Stations = l
		expectCalls(t, "stations", w, want, calls)
	}
}

// limited is a week with a second sheet whose track would have more nodes than it may have; the reading contradicts the first one.
func limited() api.Week {
	w := clashing()
	w.Base.Ticks = api.MaxTicks
	s := &w.Sheets[1].Sheet
	s.Paper.Columns = 42
	s.Drum.Rates = slices.Repeat(set(1, 40), 41)
	return w
}

// TestArguments checks that ErrArg comes ahead of ErrLimit and of ErrClash.
func TestArguments(t *testing.T) {
	low, high := math.MinInt, math.MaxInt
	for what, w := range map[string]api.Week{"example": example(), "clash": clashing(), "limit": limited()} {
		for _, sheet := range []int{-1, 2, low, high} {
			expectCalls(t, what, w, api.ErrArg, slices.Concat(plain(sheet), alone(sheet, 0), regional(sheet, 0, 10000, 2)))
		}
		for _, zero := range []int{-1, 1, low, high} {
			expectCalls(t, what, w, api.ErrArg, alone(0, zero)[:1])
		}
		for _, tick := range []int{-1, w.Base.Ticks + 1, low, high} {
			calls := regional(0, tick, 10000, 2)
			expectCalls(t, what, w, api.ErrArg, []call{calls[1], calls[3], calls[4], calls[6]})
		}
		last := regional(0, w.Base.Ticks, 10000, 2)
		expectCalls(t, what, w, api.ErrArg, []call{last[4], last[6]})
		for _, rise := range []int{0, api.MaxFront + 1, -api.MaxFront - 1, low, high} {
			expectCalls(t, what, w, api.ErrArg, regional(0, 0, 10000, rise)[4:])
		}
		for _, ticks := range [][]int{{0, 0}, {1, 1}, {2, 1}, {-1, 1}, {0, w.Base.Ticks + 1}, {0, low}, {high, 1}, {low, high}, {low, low}} {
			n, e := weeks.Surely(w, 0, ticks[0], ticks[1], 2)
			expectError(t, n, e, api.ErrArg)
		}
		for _, pair := range [][]int{{0, 0}, {1, 1}, {0, 2}, {2, 0}, {-1, 0}, {low, high}, {5, 5}} {
			l, e := weeks.Passages(w, pair[0], pair[1], 2)
			expectError(t, l, e, api.ErrArg)
		}
	}
}

// TestLimits checks that ErrLimit comes ahead of ErrClash, and for which sheets.
func TestLimits(t *testing.T) {
	w := limited()
	many := api.ErrLimit
	expectCalls(t, "the sheet", w, many, slices.Concat(alone(1, 0), regional(1, 0, 10000, 2)))
	expectCalls(t, "another sheet", w, many, slices.Concat(regional(0, 0, 10000, 2), whole()))
	for _, c := range slices.Concat(plain(1), alone(0, 0), free(nil)[:2]) {
		if _, e := c.do(w); e == many {
			t.Error(c.name, e)
		}
	}
	if e := weeks.Keeps(w, nil); e != api.ErrClash {
		t.Error(e)
	}
}

// TestMostNodes has tracks with as many nodes as there may be, and with a few more.
func TestMostNodes(t *testing.T) {
	for band := range api.MaxBand + 1 {
		w := example()
		w.Base.Ticks = api.MaxTicks
		s := &w.Sheets[0].Sheet
		s.Pen.Band = band
		// The clock has three states more than the gaps have ticks together, as none is longer than the week.
		states := api.MaxNodes / (2*band + 1)
		columns := states / 41
		s.Drum.Rates = slices.Repeat(set(1, 40), columns)
		s.Drum.Stops = []api.Stop{{Column: 0, Ticks: span(0, states-3-40*columns)}}
		s.Paper.Columns = columns + 1
		zeros, e := weeks.Zeros(w, 0)
		if e != api.OK || len(zeros) != 1 {
			t.Error(band, zeros, e)
		}
		s.Drum.Stops[0].Ticks.Hi++
		zeros, e = weeks.Zeros(w, 0)
		expectError(t, zeros, e, api.ErrLimit)
		// Ticks beyond the week make no states.
		w.Base.Ticks = 39
		if _, e := weeks.Zeros(w, 0); e != api.OK {
			t.Error(band, e)
		}
	}
}

// TestClashes checks which functions return ErrClash, and that it comes ahead of ErrNone.
func TestClashes(t *testing.T) {
	w := clashing()
	calls := alone(0, 0)
	expectCalls(t, "alone", w, api.ErrClash, slices.Concat(calls[2:3], regional(0, 0, 10000, 2), regional(1, 0, -5, 2), whole()[:1]))
	levels, e := weeks.Alone(w, 1)
	expect(t, levels, e, must(weeks.Alone(example(), 1)))
	zeros, e := weeks.Zeros(w, 0)
	expect(t, zeros, e, nil)
	if _, e := weeks.Track(w, 0, 0); e != api.OK {
		t.Error(e)
	}
}

// parts collects where the elements of all slices of a value lie in memory.
func parts(v reflect.Value, found map[string]int) {
	switch v.Kind() {
	case reflect.Struct:
		for i := range v.NumField() {
			parts(v.Field(i), found)
		}
	case reflect.Slice:
		// What an append would write to is a part as well.
		room := v.Slice(0, v.Cap())
		for i := range room.Len() {
			found[fmt.Sprint(room.Index(i).Addr().Pointer(), room.Type())]++
		}
		for i := range v.Len() {
			parts(v.Index(i), found)
		}
	}
}

// expectNew checks that a result shares no memory with a week, nor one of its slices with another one.
func expectNew(t *testing.T, result any, w api.Week) {
	t.Helper()
	mine, others := map[string]int{}, map[string]int{}
	parts(reflect.ValueOf(result), mine)
	parts(reflect.ValueOf(w), others)
	for at, times := range mine {
		if times > 1 || others[at] > 0 {
			t.Errorf("%T shares %s", result, at)
			return
		}
	}
}

// TestMemory checks that results are new memory, and that weeks stay as they are, although their lists have room.
func TestMemory(t *testing.T) {
	x := newDice(40)
	for range 60 {
		w := x.contrary()
		w.Sheets[0].Names = make([]api.Name, len(w.Sheets[0].Marks)+1)
		w.Sheets[1].Names = make([]api.Name, len(w.Sheets[1].Marks))
		w.Sheets[1].Sheet.Blots = []int{1}
		w.Sheets, w.Reads = slices.Grow(w.Sheets, 9), slices.Grow(w.Reads, 9)
		before := fmt.Sprint(w)
		for _, w := range []api.Week{w, must(weeks.Without(w, must(weeks.Claims(w))))} {
			for _, r := range results(w) {
				expectNew(t, r, w)
			}
		}
		if fmt.Sprint(w) != before {
			t.Fatal("a week is changed")
		}
	}
}

// results are the results of calls that have slices.
func results(w api.Week) []any {
	claims := must(weeks.Claims(w))
	return []any{
		claims, must(weeks.Without(w, nil)), must(weeks.Without(w, claims[:len(claims)/2])),
		must(weeks.Inked(w, 0)), must(weeks.Track(w, 0, w.Sheets[0].Sheet.Pen.Zero.Lo)), must(weeks.Zeros(w, 0)),
		first(weeks.Alone(w, 0)), first(weeks.Terms(w)), first(weeks.Levels(w, 0)), first(weeks.Level(w, 0, 0)),
		first(weeks.Columns(w, 0)), first(weeks.Fronts(w, 0, 1)), first(weeks.Passages(w, 0, 1, 1)),
		first(weeks.Courses(w, 0, 0, w.Sheets[0].Sheet.Paper.Low+3)),
		first(weeks.Core(w)), first(weeks.Drops(w)), first(weeks.Homes(w, 0)), first(weeks.Misfiled(w)),
	}
}

func first[T any](value T, _ api.Errno) T { return value }

// TestLargest has a week with sheets as long as they can be, with all that is asked about it.
func TestLargest(t *testing.T) {
	w := example()
	w.Base.Ticks, w.Base.Term = api.MaxTicks, 200
	for i := range w.Sheets {
		s := &w.Sheets[i].Sheet
		s.Paper.Columns = api.MaxColumns
		s.Drum.Rates = slices.Repeat(set(1, 3), api.MaxColumns-1)
		s.Pen = api.Pen{Band: 1, Zero: span(i, i), Rate: 1}
		s.Trace = nil
		for c := 0; c < api.MaxColumns; c += 1 + i {
			s.Trace = append(s.Trace, point(100*c+50, 500+c/8, 0))
		}
		w.Sheets[i].Marks = []api.Mark{markAt(0, 0, 9), markAt(100, 195, 205), markAt(199, 390, 400)}
	}
	levels := must(weeks.Levels(w, 0))
	for tick, l := range levels {
		if len(l) == 0 || !isWithin(l, set(9980, 10045)) {
			t.Fatal(tick, l)
		}
	}
	l := must(weeks.Courses(w, 0, 300, levels[300][0].Lo))
	if e := weeks.Keeps(w, l); e != api.OK || l[0].Levels[300] != levels[300][0].Lo {
		t.Error(e)
	}
	columns := must(weeks.Columns(w, 0))
	if !isWithin(columns[100], set(195, 205)) || !has(columns[100], l[0].Ticks[100]) {
		t.Error(columns[100])
	}
	fronts := must(weeks.Fronts(w, 0, 1))
	if len(fronts) != api.MaxTicks || slices.Max(fronts) != api.FrontMay {
		t.Error(fronts)
	}
	surely := must(weeks.Surely(w, 0, 0, api.MaxTicks, 1))
	if surely != api.FrontCertain {
		t.Error(surely)
	}
	if pairs := must(weeks.Passages(w, 0, 1, 1)); len(pairs) != 160000 {
		t.Error(len(pairs))
	}
	w.Reads = []api.Read{read(1, 0, 20, 10000, 10040), read(1, 0, 390, 10002, 10003), read(2, 0, 200, 10000, 10040)}
	// Without the last mark all columns may have passed long ahead of the second reading.
	core, e := weeks.Core(w)
	expect(t, core, e, []api.Claim{mark(0, 2), reading(1)})
	drops, e := weeks.Drops(w)
	expect(t, drops, e, [][]api.Claim{{mark(0, 2)}, {reading(1)}})
}

// TestManyStations has as many stations as there may be, with sheets without ink: all levels are possible, as far as heights let them.
func TestManyStations(t *testing.T) {
	w := example()
	w.Base.Wind = api.Wind{Fixed: 0}
	w.Base.Stations, w.Sheets = nil, nil
	for i := range api.MaxStations {
		w.Base.Stations = append(w.Base.Stations, station(i+1, 0, 0, 0, 100*(i%2)))
		w.Sheets = append(w.Sheets, sheet(i+1))
	}
	// At the height 0 all levels at the sea are those of levels; at one of 100 metres the greatest one is further up.
	terms := must(weeks.Terms(w))
	for i, l := range terms {
		if !same(l, set(0, api.MaxLevel)) {
			t.Fatal(i, l)
		}
	}
	w.Base.Stations[0].Heights[0].Metres = span(100, 100)
	terms = must(weeks.Terms(w))
	if last := terms[0]; len(last) != 1 || last[0].Lo != 0 || last[0].Hi != 11852 {
		t.Error(last)
	}
	if odd := terms[1]; len(odd) < 1 || odd[0].Lo != 0 || odd[len(odd)-1].Hi != api.MaxLevel {
		t.Error(odd)
	}
}

// fields collects all numbers of a value.
func fields(v reflect.Value, found *[]reflect.Value) {
	switch v.Kind() {
	case reflect.Struct:
		for i := range v.NumField() {
			fields(v.Field(i), found)
		}
	case reflect.Slice:
		for i := range v.Len() {
			fields(v.Index(i), found)
		}
	case reflect.Int:
		*found = append(*found, v)
	}
}

// TestAnyNumbers puts numbers of all sizes into weeks and into arguments: no call panics, and what Check refuses all refuse.
func TestAnyNumbers(t *testing.T) {
	x := newDice(41)
	sizes := []int{math.MinInt, math.MinInt + 1, -12001, -1, 0, 1, 2, 40, 401, 12000, 12001, math.MaxInt - 1, math.MaxInt}
	refused, taken := 0, 0
	for range 3000 {
		w := must(weeks.Without(x.contrary(), nil))
		var numbers []reflect.Value
		fields(reflect.ValueOf(&w).Elem(), &numbers)
		numbers[x.IntN(len(numbers))].SetInt(int64(x.one(sizes...)))
		calls := slices.Concat(plain(0), alone(0, x.one(sizes...)), regional(x.IntN(2), x.one(0, x.one(sizes...)), x.one(sizes...), x.one(1, x.one(sizes...))), whole(), free(nil))
		want := weeks.Check(w)
		for _, c := range calls {
			zero, e := c.do(w)
			if want != api.OK && (e != want || !zero) || want == api.OK && e == api.ErrWeek {
				t.Fatal(c.name, w, zero, e, want)
			}
		}
		if want == api.OK {
			taken++
		} else {
			refused++
		}
	}
	enough(t, "refused", refused, 300)
	enough(t, "taken", taken, 300)
}
