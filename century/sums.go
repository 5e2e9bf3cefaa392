package century

import "aneroid/api"

// A total is a sum of the adjusted levels of a record, each as many times as its weight says.
type total struct {
	record
	weights []int
}

// weigh returns a total in which nothing counts yet.
func (r record) weigh() total { return total{r, make([]int, len(r.Values))} }

// add adds a weight to those of the values in a span of times.
func (t total) add(times api.Span, weight int) {
	for i := range t.within(times) {
		t.weights[i] += weight
	}
}

// least returns levels and shifts that agree with which the total is least.
func (t total) least() (levels, shifts []int) { return t.choose(1) }

// greatest returns levels and shifts that agree with which the total is greatest.
func (t total) greatest() (levels, shifts []int) { return t.choose(-1) }

// choose returns levels and shifts that agree with which the total, multiplied by a factor, is least. Each of them counts by itself, so that each is at one of its own ends.
func (t total) choose(factor int) (levels, shifts []int) {
	for i, v := range t.Values {
		levels = append(levels, end(v.Levels, factor*t.weights[i]))
	}
	for _, x := range t.Shifts {
		shifts = append(shifts, end(x.Levels, -factor*t.weightFrom(x.Time)))
	}
	return levels, shifts
}

// end returns the number of a span that is least if it is multiplied by a factor.
func end(s api.Span, factor int) int {
	if factor < 0 {
		return s.Hi
	}
	return s.Lo
}

// weightFrom returns the sum of the weights from a time on: so many times a shift of this time is taken away.
func (t total) weightFrom(time int) int {
	all := 0
	for i := range t.within(api.Span{Lo: time, Hi: api.MaxWeek}) {
		all += t.weights[i]
	}
	return all
}

// ends returns the bounds of the total.
func (t total) ends() api.Span {
	return api.Span{Lo: t.of(t.least), Hi: t.of(t.greatest)}
}

// of returns the total with the levels and shifts that a function finds.
func (t total) of(find func() (levels, shifts []int)) int {
	all := 0
	for i, level := range t.adjusted(find()) {
		all += t.weights[i] * level
	}
	return all
}
