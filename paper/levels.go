package paper

import (
	"slices"
	"sort"

	"aneroid/api"
)

// levels is a set of levels that is being built.
type levels struct{ spans []api.Span }

// column is what a sheet shows in a column.
type column struct {
	levels
	blotted bool
}

// add adds the levels of a span. Spans that overlap or touch one another become one, since sets have a number between each two.
func (l *levels) add(s api.Span) {
	from := sort.Search(len(l.spans), func(i int) bool { return l.spans[i].Hi >= s.Lo-1 })
	to := sort.Search(len(l.spans), func(i int) bool { return l.spans[i].Lo > s.Hi+1 })
	if from < to {
		s.Lo = min(s.Lo, l.spans[from].Lo)
		s.Hi = max(s.Hi, l.spans[to-1].Hi)
	}
	l.spans = slices.Replace(l.spans, from, to, s)
}

// sheet returns columns as an inked sheet, unless one has too many spans. Only the finished columns count: spans may become one until then.
func sheet(columns []column) (api.Inked, api.Errno) {
	x := api.Inked{Columns: make([][]api.Span, len(columns))}
	for c := range columns {
		if len(columns[c].spans) > maxLines {
			return api.Inked{}, api.ErrLimit
		}
		x.Columns[c] = columns[c].spans
	}
	return x, api.OK
}

// isSet reports whether spans are a set of levels.
func isSet(spans []api.Span) bool {
	least := 0
	for _, s := range spans {
		if s.Lo < least || s.Lo > s.Hi || s.Hi > api.MaxLevel {
			return false
		}
		least = s.Hi + 2
	}
	return true
}
