package atlas

import (
	"aneroid/api"
	"aneroid/archive"
	"aneroid/clerks"
)

// setting returns an order that cannot fail.
func setting(args int, set func(a []int)) order {
	return order{args: args, does: func(a []int) ([]int, api.Errno) {
		set(a)
		return nil, api.OK
	}}
}

// spanOf returns the span with two numbers as its ends.
func spanOf(a []int) api.Span { return api.Span{Lo: a[0], Hi: a[1]} }

// openings are the commands ahead of begin, and begin itself.
func (k *console) openings() map[string]order {
	return map[string]order{
		"station": setting(5, k.addStation),
		"height":  {args: 4, does: k.addHeight},
		"wind":    setting(2, func(a []int) { k.base.Wind = api.Wind{Fixed: a[0], Each: a[1]} }),
		"ticks":   setting(2, func(a []int) { k.base.Ticks, k.base.Term = a[0], a[1] }),
		"begin":   {args: 1, does: k.begin},
	}
}

func (k *console) addStation(a []int) {
	s := api.Station{ID: a[0], X: a[1], Y: a[2], Heights: []api.Height{{Metres: spanOf(a[3:])}}}
	k.base.Stations = append(k.base.Stations, s)
}

func (k *console) addHeight(a []int) ([]int, api.Errno) {
	last := len(k.base.Stations) - 1
	if last < 0 || k.base.Stations[last].ID != a[0] {
		return nil, api.ErrNone
	}
	s := &k.base.Stations[last]
	s.Heights = append(s.Heights, api.Height{Week: a[1], Metres: spanOf(a[2:])})
	return nil, api.OK
}

func (k *console) begin(a []int) ([]int, api.Errno) {
	b := k.base
	b.Clerks = a[0]
	if e := archive.CheckBase(b); e != api.OK {
		return nil, e
	}
	w, e := clerks.NewWorld(b, a[0])
	if e != api.OK {
		return nil, e
	}
	k.base, k.world = b, w
	return nil, api.OK
}

// drafts are the commands that make the draft.
func (k *console) drafts() map[string]order {
	s := &k.draft
	return map[string]order{
		"paper": setting(10, func(a []int) {
			s.Paper = api.Paper{Pitch: a[0], Height: a[1], Radius: a[2], Low: a[3], High: a[4], Columns: a[5], Along: spanOf(a[6:]), Across: spanOf(a[8:])}
		}),
		"point": setting(3, func(a []int) { s.Trace = append(s.Trace, api.Point{X: a[0], Y: a[1], Half: a[2]}) }),
		"blot":  setting(1, func(a []int) { s.Blots = append(s.Blots, a[0]) }),
		"rate":  setting(2, func(a []int) { s.Drum.Rates = append(s.Drum.Rates, spanOf(a)) }),
		"stop":  setting(3, func(a []int) { s.Drum.Stops = append(s.Drum.Stops, api.Stop{Column: a[0], Ticks: spanOf(a[1:])}) }),
		"pen":   setting(4, func(a []int) { s.Pen = api.Pen{Band: a[0], Zero: spanOf(a[1:]), Rate: a[3]} }),
	}
}
