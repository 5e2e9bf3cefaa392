package weeks

import (
	"slices"

	"aneroid/api"
)

// home returns a function that tells whether a sheet that is laid out could be filed under a station, for itself.
func (o *opened) home(sheet int) func(station int) bool {
	// Stations without readings are all the same: the sheet is asked for one of them only.
	var plain []bool
	return func(station int) bool {
		isRead := slices.ContainsFunc(o.Reads, func(r api.Read) bool { return r.Station == station })
		if !isRead && len(plain) > 0 {
			return plain[0]
		}
		fits := o.inquire(sheet, station, all).isWhole()
		if !isRead {
			plain = append(plain, fits)
		}
		return fits
	}
}

// Homes returns the stations under which a sheet agrees with all readings.
func Homes(w api.Week, sheet int) ([]int, api.Errno) {
	o, e := openSheet(w, sheet, true)
	if e != api.OK {
		return nil, e
	}
	isHome := o.home(sheet)
	var homes []int
	for _, s := range o.Base.Stations {
		if isHome(s.ID) {
			homes = append(homes, s.ID)
		}
	}
	return homes, api.OK
}

// Misfiled returns the sheets that agree with another station alone.
func Misfiled(w api.Week) ([]int, api.Errno) {
	o, e := openSheets(w, true)
	if e != api.OK {
		return nil, e
	}
	var misfiled []int
filed:
	for i, f := range o.Sheets {
		isHome := o.home(i)
		if isHome(f.Station) {
			continue
		}
		for _, s := range o.Base.Stations {
			if isHome(s.ID) {
				misfiled = append(misfiled, i)
				continue filed
			}
		}
	}
	return misfiled, api.OK
}
