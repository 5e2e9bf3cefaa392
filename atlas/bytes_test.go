package atlas_test

import (
	"bytes"
	"math"
	"math/big"
	"slices"
	"strings"
	"testing"

	"aneroid/api"
	"aneroid/atlas"
)

func TestHash(t *testing.T) {
	for _, one := range []struct {
		l    []byte
		want int
	}{{nil, 23}, {[]byte{}, 23}, {[]byte{0}, 6464}, {[]byte{255}, 6719}, {[]byte{0, 0}, 281*6464 + 1}} {
		expect(t, atlas.Hash(one.l), api.OK, one.want)
	}
	// The same with numbers without bounds: one that is reduced at the end.
	l := []byte(strings.Repeat("barograph \xff\x00", 40))
	h := big.NewInt(23)
	for _, b := range l {
		h.Mul(h, big.NewInt(281)).Add(h, big.NewInt(int64(b)+1))
	}
	expect(t, int64(atlas.Hash(l)), api.OK, h.Mod(h, big.NewInt(2147483549)).Int64())
}

// A scribe writes the encoding as the chapter has it, value by value.
type scribe struct{ bytes.Buffer }

func (s *scribe) numbers(l ...int) {
	for _, n := range l {
		u := new(big.Int).Lsh(big.NewInt(int64(n)), 1)
		if n < 0 {
			u.Neg(u).Sub(u, big.NewInt(1))
		}
		digits := []byte{byte(u.Uint64() % 128)}
		for u.Rsh(u, 7).Sign() > 0 {
			digits = append(digits, 128+byte(u.Uint64()%128))
		}
		slices.Reverse(digits)
		s.Write(digits)
	}
}

func each[E any](s *scribe, l []E, write func(x E)) {
	s.numbers(len(l))
	for _, x := range l {
		write(x)
	}
}

func (s *scribe) list(l []int) { each(s, l, func(n int) { s.numbers(n) }) }

func (s *scribe) span(x api.Span) { s.numbers(x.Lo, x.Hi) }

func (s *scribe) base(b api.Base) {
	each(s, b.Stations, func(x api.Station) {
		s.numbers(x.ID, x.X, x.Y)
		each(s, x.Heights, func(h api.Height) { s.numbers(h.Week, h.Metres.Lo, h.Metres.Hi) })
	})
	s.numbers(b.Wind.Fixed, b.Wind.Each, b.Term, b.Ticks, b.Clerks)
}

func (s *scribe) sheet(x api.Sheet) {
	p := x.Paper
	s.numbers(p.Pitch, p.Height, p.Radius, p.Low, p.High, p.Columns, p.Along.Lo, p.Along.Hi, p.Across.Lo, p.Across.Hi)
	each(s, x.Trace, func(t api.Point) { s.numbers(t.X, t.Y, t.Half) })
	s.list(x.Blots)
	each(s, x.Drum.Rates, s.span)
	each(s, x.Drum.Stops, func(t api.Stop) { s.numbers(t.Column, t.Ticks.Lo, t.Ticks.Hi) })
	s.numbers(x.Pen.Band, x.Pen.Zero.Lo, x.Pen.Zero.Hi, x.Pen.Rate)
}

func (s *scribe) week(w api.Week) {
	s.base(w.Base)
	s.numbers(w.Week)
	each(s, w.Sheets, func(f api.Filed) {
		s.numbers(f.Name.Clerk, f.Name.Num, f.Station, f.Week)
		s.sheet(f.Sheet)
		each(s, f.Marks, func(m api.Mark) { s.numbers(m.Column, m.Ticks.Lo, m.Ticks.Hi) })
		each(s, f.Names, func(n api.Name) { s.numbers(n.Clerk, n.Num) })
	})
	each(s, w.Reads, func(r api.Read) { s.numbers(r.Station, r.Week, r.Tick, r.Levels.Lo, r.Levels.Hi) })
}

func (s *scribe) courses(l [][]api.Course) {
	each(s, l, func(l []api.Course) {
		each(s, l, func(c api.Course) {
			s.numbers(c.Zero)
			s.list(c.Ticks)
			s.list(c.Shown)
			s.list(c.Levels)
		})
	})
}

func (s *scribe) claims(l []api.Claim) {
	each(s, l, func(c api.Claim) { s.numbers(c.Kind, c.Sheet, c.Index) })
}

func written(x api.Atlas) []byte {
	s := &scribe{}
	s.base(x.Base)
	s.week(x.Week)
	s.numbers(x.Rise, int(x.Trouble))
	each(s, x.Shown, func(h api.Shown) {
		each(s, h.Levels, func(l []api.Span) { each(s, l, s.span) })
		s.courses(h.Least)
		s.courses(h.Most)
		s.list(h.Fronts)
	})
	s.claims(x.Core)
	each(s, x.Drops, s.claims)
	return s.Bytes()
}

// checkBytes checks that an atlas and its bytes belong together.
func checkBytes(t *testing.T, x api.Atlas) []byte {
	t.Helper()
	l, e := atlas.Encode(x)
	if e != api.OK || !bytes.Equal(l, written(x)) {
		t.Fatal(x, l, e)
	}
	if y, e := atlas.Decode(l); e != api.OK || !same(x, y) {
		t.Fatal(x, y, e)
	}
	return l
}

// numbered returns an atlas of any form; all its numbers are different ones, or of any size.
func (d dice) numbered(next func() int) api.Atlas {
	span := func() api.Span { return api.Span{Lo: next(), Hi: next()} }
	name := func() api.Name { return api.Name{Clerk: next(), Num: next()} }
	claim := func() api.Claim { return api.Claim{Kind: next(), Sheet: next(), Index: next()} }
	claims := func() []api.Claim { return some(d, claim) }
	course := func() api.Course {
		return api.Course{Zero: next(), Ticks: some(d, next), Shown: some(d, next), Levels: some(d, next)}
	}
	courses := func() []api.Course { return some(d, course) }
	base := func() api.Base {
		return api.Base{Stations: some(d, func() api.Station {
			return api.Station{ID: next(), X: next(), Y: next(), Heights: some(d, func() api.Height { return api.Height{Week: next(), Metres: span()} })}
		}), Wind: api.Wind{Fixed: next(), Each: next()}, Term: next(), Ticks: next(), Clerks: next()}
	}
	sheet := func() api.Sheet {
		return api.Sheet{
			Paper: api.Paper{Pitch: next(), Height: next(), Radius: next(), Low: next(), High: next(), Columns: next(), Along: span(), Across: span()},
			Trace: some(d, func() api.Point { return point(next(), next(), next()) }),
			Blots: some(d, next),
			Drum:  api.Drum{Rates: some(d, span), Stops: some(d, func() api.Stop { return api.Stop{Column: next(), Ticks: span()} })},
			Pen:   api.Pen{Band: next(), Zero: span(), Rate: next()},
		}
	}
	return api.Atlas{
		Base: base(),
		Week: api.Week{Base: base(), Week: next(), Sheets: some(d, func() api.Filed {
			return api.Filed{Name: name(), Station: next(), Week: next(), Sheet: sheet(), Marks: some(d, func() api.Mark { return markAt(next(), next(), next()) }), Names: some(d, name)}
		}), Reads: some(d, func() api.Read { return read(next(), next(), next(), next(), next()) })},
		Rise:    next(),
		Trouble: api.Errno(next()),
		Shown: some(d, func() api.Shown {
			return api.Shown{Levels: some(d, func() []api.Span { return some(d, span) }), Least: some(d, courses), Most: some(d, courses), Fronts: some(d, next)}
		}),
		Core:  claims(),
		Drops: some(d, claims),
	}
}

// some returns a list of none to three elements.
func some[E any](d dice, next func() E) []E {
	var l []E
	for range d.IntN(4) {
		l = append(l, next())
	}
	return l
}

// counter returns a function that counts.
func counter() func() int {
	n := 0
	return func() int {
		n++
		return n
	}
}

func TestEncode(t *testing.T) {
	expect(t, checkBytes(t, api.Atlas{}), api.OK, make([]byte, 20))
	checkBytes(t, plain())
	checkBytes(t, clashing())
	checkBytes(t, hopeless())
	x := newDice(5)
	for range 300 {
		checkBytes(t, x.numbered(counter()))
		checkBytes(t, x.numbered(func() int { return int(x.Uint64()) >> (1 + x.IntN(63)) }))
	}
}

// TestNumbersBeyond has numbers of atlases that have no encoding, each in another place.
func TestNumbersBeyond(t *testing.T) {
	const least, greatest = -1 << 62, 1<<62 - 1
	x := newDice(6)
	for _, n := range []int{least - 1, greatest + 1, math.MinInt, math.MaxInt} {
		for range 100 {
			at, count := x.IntN(300), 0
			l, e := atlas.Encode(x.numbered(func() int {
				count++
				if count == at {
					return n
				}
				return x.one(least, greatest, 0)
			}))
			if count >= at && at > 0 {
				expectError(t, l, e, api.ErrLimit)
			} else if e != api.OK {
				t.Error(e)
			}
		}
	}
}

func expectNone(t *testing.T, l []byte) {
	t.Helper()
	x, e := atlas.Decode(l)
	expectError(t, x, e, api.ErrBytes)
}

// TestNoAtlas decodes bytes that are none, too few, too many, or bent.
func TestNoAtlas(t *testing.T) {
	expectNone(t, nil)
	for _, x := range []api.Atlas{{}, plain(), clashing()} {
		l := must(atlas.Encode(x))
		for i := range l {
			expectNone(t, l[:i])
		}
		expectNone(t, append(slices.Clone(l), 0))
		// A further digit 0 ahead of the first number, and as many stations as there are bytes, or -1.
		expectNone(t, append([]byte{128}, l...))
		expectNone(t, append([]byte{255, 255, 255, 255, 255, 255, 255, 255, 126}, l[1:]...))
		expectNone(t, append([]byte{1}, l[1:]...))
	}
}

// TestBentBytes checks that just those bytes are decoded that are the encoding of what they are decoded to.
func TestBentBytes(t *testing.T) {
	x := newDice(7)
	decoded := 0
	for range 3000 {
		l := must(atlas.Encode(x.numbered(func() int { return x.from(-100, 100) })))
		for range x.from(1, 3) {
			i := x.IntN(len(l))
			switch x.IntN(3) {
			case 0:
				l[i] = byte(x.IntN(256))
			case 1:
				l = slices.Delete(l, i, i+1)
			case 2:
				l = slices.Insert(l, i, byte(x.one(0, 1, 2, 128, 129, x.IntN(256))))
			}
		}
		y, e := atlas.Decode(l)
		if e != api.OK {
			expectError(t, y, e, api.ErrBytes)
			continue
		}
		decoded++
		if !bytes.Equal(must(atlas.Encode(y)), l) {
			t.Fatal(l)
		}
	}
	enough(t, "decoded", decoded, 200)
}
