package atlas

import (
	"aneroid/api"
	"aneroid/century"
)

// Values returns the levels at the sea of several weeks.
func Values(l []api.Atlas, station int) ([]api.Value, api.Errno) {
	for i, x := range l {
		if i > 0 && x.Week.Week <= l[i-1].Week.Week {
			return nil, api.ErrArg
		}
	}
	var values []api.Value
	for _, x := range l {
		if levels, e := Sea(x, station); e == api.OK {
			values = append(values, api.Value{Time: x.Week.Week, Levels: levels})
		}
	}
	return values, api.OK
}

// Trend returns the bounds of the slope over several weeks.
func Trend(l []api.Atlas, station int) (low, high api.Ratio, e api.Errno) {
	values, e := Values(l, station)
	if e != api.OK {
		return api.Ratio{}, api.Ratio{}, e
	}
	return century.Slope(api.Series{Values: values})
}
