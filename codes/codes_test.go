package codes_test

import (
	"bytes"
	"fmt"
	"math"
	"math/rand/v2"
	"testing"

	"aneroid/api"
	"aneroid/codes"
)

const (
	least    = -1 << 62
	greatest = 1<<62 - 1
)

// encoded returns the encoding of a value that has one.
func encoded[T any](t *testing.T, x T, pass func(codes.Coder, *T)) []byte {
	t.Helper()
	l, ok := codes.Encode(x, pass)
	if !ok {
		t.Fatal(x, "has no encoding")
	}
	return l
}

// expectNone checks that bytes are no encoding, and give nothing.
func expectNone[T any](t *testing.T, l []byte, pass func(codes.Coder, *T)) {
	t.Helper()
	var none T
	if x, ok := codes.Decode(l, pass); ok || fmt.Sprint(x) != fmt.Sprint(none) {
		t.Error(l, "is decoded to", x, ok)
	}
}

// expectBoth checks that a value and bytes belong together, and that neither less nor more bytes are an encoding.
func expectBoth[T any](t *testing.T, x T, pass func(codes.Coder, *T), l ...byte) {
	t.Helper()
	if got := encoded(t, x, pass); !bytes.Equal(got, l) {
		t.Error(x, "is encoded as", got, "not", l)
	}
	if y, ok := codes.Decode(l, pass); !ok || fmt.Sprint(y) != fmt.Sprint(x) {
		t.Error(l, "is decoded to", y, ok, "not", x)
	}
	for i := range l {
		expectNone(t, l[:i], pass)
	}
	expectNone(t, append(bytes.Clone(l), 0), pass)
}

func TestNumbers(t *testing.T) {
	expectBoth(t, 0, codes.Number, 0)
	expectBoth(t, -1, codes.Number, 1)
	expectBoth(t, 1, codes.Number, 2)
	expectBoth(t, 63, codes.Number, 126)
	expectBoth(t, -64, codes.Number, 127)
	expectBoth(t, 64, codes.Number, 129, 0)
	expectBoth(t, -65, codes.Number, 129, 1)
	expectBoth(t, 8191, codes.Number, 255, 126)
	expectBoth(t, 8192, codes.Number, 129, 128, 0)
	expectBoth(t, greatest, codes.Number, 255, 255, 255, 255, 255, 255, 255, 255, 126)
	expectBoth(t, least, codes.Number, 255, 255, 255, 255, 255, 255, 255, 255, 127)
	for _, n := range []int{greatest + 1, least - 1, math.MaxInt, math.MinInt} {
		if l, ok := codes.Encode(n, codes.Number); ok || l != nil {
			t.Error(n, l, ok)
		}
	}
}

// TestNoNumbers decodes what has a digit 0 ahead of others, or too many digits.
func TestNoNumbers(t *testing.T) {
	expectNone(t, nil, codes.Number)
	expectNone(t, []byte{128, 0}, codes.Number)
	expectNone(t, []byte{128, 129, 0}, codes.Number)
	expectNone(t, []byte{129, 128, 128, 128, 128, 128, 128, 128, 128, 0}, codes.Number)
	expectNone(t, []byte{255, 255, 255, 255, 255, 255, 255, 255, 255, 127}, codes.Number)
	expectNone(t, append(bytes.Repeat([]byte{255}, 20), 0), codes.Number)
}

// TestEachNumber goes through all lists of one and two bytes: just those are decoded that encode what they are decoded to, and each number has some.
func TestEachNumber(t *testing.T) {
	seen := map[int]bool{}
	for length := range 2 {
		for code := range 1 << (8 * (length + 1)) {
			l := []byte{byte(code), byte(code >> 8)}[:length+1]
			n, ok := codes.Decode(l, codes.Number)
			if !ok {
				continue
			}
			if seen[n] || !bytes.Equal(encoded(t, n, codes.Number), l) {
				t.Fatal(n, l)
			}
			seen[n] = true
		}
	}
	for n := -1 << 13; n < 1<<13; n++ {
		if !seen[n] {
			t.Fatal(n)
		}
	}
	if len(seen) != 1<<14 {
		t.Error(len(seen))
	}
}

func TestRandomNumbers(t *testing.T) {
	x := rand.New(rand.NewPCG(1, 9))
	for range 100000 {
		n := int(x.Uint64()) >> (1 + x.IntN(63))
		if y, ok := codes.Decode(encoded(t, n, codes.Number), codes.Number); !ok || y != n {
			t.Fatal(n, y, ok)
		}
	}
}

func TestBytes(t *testing.T) {
	expectBoth(t, nil, codes.Bytes, 0)
	expectBoth(t, []byte{7, 128, 0}, codes.Bytes, 6, 7, 128, 0)
	expectNone(t, []byte{1}, codes.Bytes) // -1 bytes
	expectNone(t, []byte{255, 255, 255, 255, 255, 255, 255, 255, 126}, codes.Bytes)
}

func numbers(c codes.Coder, l *[]int) { codes.List(c, l, codes.Number) }

func TestLists(t *testing.T) {
	expectBoth(t, nil, numbers, 0)
	expectBoth(t, []int{-1, 64, 0}, numbers, 6, 1, 129, 0, 0)
	expectNone(t, []byte{1}, numbers) // -1 elements
	expectNone(t, []byte{127}, numbers)
	expectNone(t, []byte{255, 255, 255, 255, 255, 255, 255, 255, 126, 0, 0}, numbers)
	expectNone(t, []byte{128, 0}, numbers)
	expectBoth(t, [][]int{{1}, nil, {2, 3}}, func(c codes.Coder, l *[][]int) { codes.List(c, l, numbers) }, 6, 2, 2, 0, 4, 4, 6)
	if l, ok := codes.Encode([]int{1, greatest + 1}, numbers); ok || l != nil {
		t.Error(l, ok)
	}
}

// TestParts gives each number another value, so that their order is seen.
func TestParts(t *testing.T) {
	span := func(n int) api.Span { return api.Span{Lo: n, Hi: n + 1} }
	expectBoth(t, span(1), codes.Span, 2, 4)
	expectBoth(t, api.Name{Clerk: 1, Num: 2}, codes.Name, 2, 4)
	expectBoth(t, api.Mark{Column: 1, Ticks: span(2)}, codes.Mark, 2, 4, 6)
	expectBoth(t, api.Read{Station: 1, Week: 2, Tick: 3, Levels: span(4)}, codes.Reading, 2, 4, 6, 8, 10)
	expectBoth(t, api.Height{Week: 1, Metres: span(2)}, codes.Height, 2, 4, 6)
	sheet := api.Sheet{
		Paper: api.Paper{Pitch: 1, Height: 2, Radius: 3, Low: 4, High: 5, Columns: 6, Along: span(7), Across: span(9)},
		Trace: []api.Point{{X: 11, Y: 12, Half: 13}, {X: 14, Y: 15, Half: 16}},
		Blots: []int{17},
		Drum:  api.Drum{Rates: []api.Span{span(18)}, Stops: []api.Stop{{Column: 20, Ticks: span(21)}}},
		Pen:   api.Pen{Band: 23, Zero: span(24), Rate: 26},
	}
	expectBoth(t, sheet, codes.Sheet,
		2, 4, 6, 8, 10, 12, 14, 16, 18, 20,
		4, 22, 24, 26, 28, 30, 32,
		2, 34,
		2, 36, 38, 2, 40, 42, 44,
		46, 48, 50, 52)
	expectBoth(t, api.Sheet{}, codes.Sheet, make([]byte, 18)...)
	expectBoth(t, api.Sheet{Pen: api.Pen{Rate: -1}}, codes.Sheet, append(make([]byte, 17), 1)...)
}

// TestMemory checks that what is decoded is new memory, and that what is encoded stays as it is.
func TestMemory(t *testing.T) {
	l := encoded(t, []byte{1, 2, 3}, codes.Bytes)
	x, _ := codes.Decode(l, codes.Bytes)
	x[0] = 9
	if !bytes.Equal(l, []byte{6, 1, 2, 3}) {
		t.Error(l)
	}
	list := append(make([]int, 0, 9), 1, 2)
	encoded(t, list, numbers)
	if fmt.Sprint(list[:3]) != "[1 2 0]" {
		t.Error(list[:3])
	}
}
