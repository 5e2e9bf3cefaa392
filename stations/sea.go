package stations

import "aneroid/api"

// Numbers of the chapter that package api does not name.
const (
	doubling = 8000 // metres up to which the level at the sea is twice the level
	maxSea   = api.MaxLevel + api.MaxLevel*api.MaxHeight/doubling
)

// Sea returns the level at the sea.
func Sea(level, height int) (int, api.Errno) {
	if !isLevel(level) || !areMetres(single(height)) {
		return 0, api.ErrArg
	}
	return sea(level, height), api.OK
}

// Seas returns the levels at the sea.
func Seas(level int, heights api.Span) (api.Span, api.Errno) {
	if !isLevel(level) || !areMetres(heights) {
		return api.Span{}, api.ErrArg
	}
	return seas(level, heights), api.OK
}

// Lands returns the levels at a height.
func Lands(s, height int) (api.Span, api.Errno) {
	if !between(s, 0, maxSea) || !areMetres(single(height)) {
		return api.Span{}, api.ErrArg
	}
	// The least level that is not below s at the sea: it alone can be at s, as the next one is further up.
	level := ceilDiv(s*doubling, doubling+height)
	if !isLevel(level) || sea(level, height) != s {
		return api.Span{}, api.ErrNone
	}
	return single(level), api.OK
}

// sea returns the level at the sea of a level at a height that are both right.
func sea(level, height int) int { return level + level*height/doubling }

// seas returns the levels at the sea over heights. None between is left out, as heights are real numbers.
func seas(level int, heights api.Span) api.Span {
	return api.Span{Lo: sea(level, heights.Lo), Hi: sea(level, heights.Hi)}
}

func isLevel(n int) bool { return between(n, 0, api.MaxLevel) }

func single(n int) api.Span { return api.Span{Lo: n, Hi: n} }

// ceilDiv divides a number that is not negative by a positive one and rounds up.
func ceilDiv(n, by int) int { return (n + by - 1) / by }
