package atlas

import "aneroid/api"

// views are the commands that ask about the atlas, or all atlases on the shelf.
func (k *console) views() map[string]order {
	return map[string]order{
		"check":     {args: 0, says: "faults", does: k.viewing(check)},
		"span":      {args: 2, says: "span", does: k.viewing(span)},
		"sea":       {args: 1, says: "sea", does: k.viewing(sea)},
		"corrected": {args: 0, says: "corrected", does: k.viewing(corrected)},
		"trend":     {args: 1, says: "trend", does: k.viewing(k.trend)},
	}
}

// viewing returns what answers a question about the atlas, if there is one.
func (k *console) viewing(view func(x api.Atlas, a []int) ([]int, api.Errno)) func(a []int) ([]int, api.Errno) {
	return func(a []int) ([]int, api.Errno) {
		if k.atlas == nil {
			return nil, api.ErrReady
		}
		return view(*k.atlas, a)
	}
}

// check checks an atlas as its reader has it, who has the bytes alone.
func check(x api.Atlas, _ []int) ([]int, api.Errno) {
	l, e := Encode(x)
	if e != api.OK {
		return nil, e
	}
	x, e = Decode(l)
	if e != api.OK {
		return nil, e
	}
	return numbersOf(Check(x), func(f api.Fault) []int { return []int{f.Kind, f.Index} }), api.OK
}

func span(x api.Atlas, a []int) ([]int, api.Errno) {
	s, e := SpanOf(x, a[0], a[1])
	return endsOf(s), e
}

func sea(x api.Atlas, a []int) ([]int, api.Errno) {
	s, e := Sea(x, a[0])
	return endsOf(s), e
}

func corrected(x api.Atlas, _ []int) ([]int, api.Errno) {
	l, e := Corrected(x)
	return numbersOf(l, partsOf), e
}

func (k *console) trend(_ api.Atlas, a []int) ([]int, api.Errno) {
	low, high, e := Trend(k.shelf, a[0])
	return []int{low.Num, low.Den, high.Num, high.Den}, e
}
