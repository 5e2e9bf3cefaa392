package century

import (
	"slices"

	"aneroid/api"
)

// Mean returns the bounds of a mean.
func Mean(s api.Series, times api.Span) (low, high api.Ratio, e api.Errno) {
	r, e := part(s, times)
	if e != api.OK {
		return api.Ratio{}, api.Ratio{}, e
	}
	t := r.weigh()
	t.add(times, 1)
	low, high = fractions(t.ends(), r.count(times))
	return low, high, api.OK
}

// Extremes returns the bounds of the least and the greatest level.
func Extremes(s api.Series, times api.Span) (least, greatest api.Span, e api.Errno) {
	r, e := part(s, times)
	if e != api.OK {
		return api.Span{}, api.Span{}, e
	}
	var lows, highs []int
	for i := range r.within(times) {
		b := r.bounds(i)
		lows, highs = append(lows, b.Lo), append(highs, b.Hi)
	}
	// All levels can be at their lower ends together, and at their upper ones.
	least = api.Span{Lo: slices.Min(lows), Hi: slices.Min(highs)}
	greatest = api.Span{Lo: slices.Max(lows), Hi: slices.Max(highs)}
	return least, greatest, api.OK
}

// part returns the record of a series, if it has values in all spans of times.
func part(s api.Series, spans ...api.Span) (record, api.Errno) {
	r, e := recordOf(s)
	if e != api.OK {
		return record{}, e
	}
	for _, times := range spans {
		if !isTimes(times) {
			return record{}, api.ErrArg
		}
	}
	for _, times := range spans {
		if r.count(times) == 0 {
			return record{}, api.ErrNone
		}
	}
	return r, api.OK
}

// count returns how many values have a time in a span.
func (r record) count(times api.Span) int {
	n := 0
	for range r.within(times) {
		n++
	}
	return n
}

// Rank returns the bounds of the rank of a time.
func Rank(s api.Series, time int) (api.Span, api.Errno) {
	r, e := recordOf(s)
	if e != api.OK {
		return api.Span{}, e
	}
	at, ok := r.find(time)
	if !ok {
		return api.Span{}, api.ErrNone
	}
	// Shifts up to the time matter to earlier values alone, later ones to later values: so all values can be as low as may be, seen from this one, together, and as high.
	var rank api.Span
	for i := range r.Values {
		rise := r.rise(at, i)
		if i != at && rise.Hi < 0 {
			rank.Lo++
		}
		if i != at && rise.Lo < 0 {
			rank.Hi++
		}
	}
	return rank, api.OK
}

// Slope returns the bounds of the slope.
func Slope(s api.Series) (low, high api.Ratio, e api.Errno) {
	t, by, e := slopeOf(s)
	if e != api.OK {
		return api.Ratio{}, api.Ratio{}, e
	}
	low, high = fractions(t.ends(), by)
	return low, high, api.OK
}

// SlopeAt returns levels and shifts with an end of the slope.
func SlopeAt(s api.Series, high bool) (levels, shifts []int, e api.Errno) {
	t, _, e := slopeOf(s)
	if e != api.OK {
		return nil, nil, e
	}
	find := t.least
	if high {
		find = t.greatest
	}
	levels, shifts = find()
	return levels, shifts, api.OK
}

// Trend returns whether levels rise or fall.
func Trend(s api.Series) (int, api.Errno) {
	t, _, e := slopeOf(s)
	if e != api.OK {
		return 0, e
	}
	return sign(t.ends()), api.OK
}

// slopeOf returns the total that is the slope if it is divided by a number above 0. ErrNone, if there are fewer than two values.
func slopeOf(s api.Series) (total, int, api.Errno) {
	r, e := recordOf(s)
	if e != api.OK {
		return total{}, 0, e
	}
	n := len(r.Values)
	if n < 2 {
		return total{}, 0, api.ErrNone
	}
	times, squares := 0, 0
	for _, v := range r.Values {
		times += v.Time
		squares += v.Time * v.Time
	}
	t := r.weigh()
	for i, v := range r.Values {
		t.weights[i] = n*v.Time - times
	}
	return t, n*squares - times*times, api.OK
}

// Change returns whether one time was higher than another one.
func Change(s api.Series, a, b api.Span) (int, api.Errno) {
	r, e := part(s, a, b)
	if e != api.OK {
		return 0, e
	}
	// Values in both spans and shifts of both count once, with what they add to the one mean less what they add to the other one.
	t := r.weigh()
	t.add(b, r.count(a))
	t.add(a, -r.count(b))
	return sign(t.ends()), api.OK
}
