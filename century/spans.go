package century

import "aneroid/api"

func between(n, least, greatest int) bool { return least <= n && n <= greatest }

// isSpan reports whether a span has a number, and none beyond the bounds.
func isSpan(s api.Span, least, greatest int) bool {
	return between(s.Lo, least, s.Hi) && s.Hi <= greatest
}

func isNothing(s api.Span) bool { return s.Lo > s.Hi }

// common returns what two spans have in common.
func common(a, b api.Span) api.Span {
	return api.Span{Lo: max(a.Lo, b.Lo), Hi: min(a.Hi, b.Hi)}
}

// sum returns the sums of a number of one span and one of another.
func sum(a, b api.Span) api.Span { return api.Span{Lo: a.Lo + b.Lo, Hi: a.Hi + b.Hi} }

// difference returns the numbers of a span, each less a number of another one.
func difference(a, b api.Span) api.Span { return sum(a, opposite(b)) }

func opposite(s api.Span) api.Span { return api.Span{Lo: -s.Hi, Hi: -s.Lo} }

// sign returns 1 if all numbers of a span are above 0, -1 if all are below, and otherwise 0.
func sign(s api.Span) int {
	switch {
	case s.Lo > 0:
		return 1
	case s.Hi < 0:
		return -1
	}
	return 0
}

// fractions returns both ends of a span, divided by a number above 0.
func fractions(s api.Span, by int) (low, high api.Ratio) {
	return fraction(s.Lo, by), fraction(s.Hi, by)
}

// fraction returns a fraction in lowest terms; its denominator must be above 0.
func fraction[N ~int | ~int64](num, den N) api.Ratio {
	by := max(num, -num)
	for rest := den; rest > 0; {
		by, rest = rest, by%rest
	}
	return api.Ratio{Num: int(num / by), Den: int(den / by)}
}
