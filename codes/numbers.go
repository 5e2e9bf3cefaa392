package codes

import (
	"math/bits"
	"slices"
)

// Numbers from least to greatest have an encoding.
const (
	least    = -1 << 62
	greatest = 1<<62 - 1
)

const (
	digitBits = 7
	more      = 1 << digitBits // is added to all digits but the last one
	maxCode   = 1<<63 - 1      // what least becomes
)

// failure is what coders panic with.
const failure = "no encoding"

// A writer is the coder that writes.
type writer struct{ written []byte }

func (w *writer) number(n *int) {
	if *n < least || *n > greatest {
		panic(failure)
	}
	code := codeOf(*n)
	for left := digitsOf(code) - 1; left >= 0; left-- {
		digit := byte(code>>(digitBits*left)) % more
		if left > 0 {
			digit += more
		}
		w.written = append(w.written, digit)
	}
}

func (w *writer) length(n int) int {
	w.number(&n)
	return n
}

func (w *writer) bytes(l *[]byte) {
	w.length(len(*l))
	w.written = append(w.written, *l...)
}

// codeOf returns the number without a sign that stands for a number.
func codeOf(n int) uint64 {
	if n < 0 {
		return 2*uint64(-(n+1)) + 1
	}
	return 2 * uint64(n)
}

// digitsOf returns how many digits a number without a sign has.
func digitsOf(code uint64) int {
	return max(1, (bits.Len64(code)+digitBits-1)/digitBits)
}

// A reader is the coder that reads.
type reader struct{ rest []byte }

func (r *reader) number(n *int) {
	var code uint64
	for {
		b := r.next()
		if code == 0 && b == more || code > maxCode>>digitBits {
			// There is no digit 0 ahead of others, as then a number would have several encodings; nor is a number greater than maxCode.
			panic(failure)
		}
		code = code<<digitBits + uint64(b%more)
		if b < more {
			break
		}
	}
	*n = int(code / 2)
	if code%2 == 1 {
		*n = -*n - 1
	}
}

func (r *reader) length(int) int {
	var n int
	r.number(&n)
	if n < 0 {
		panic(failure)
	}
	return n
}

func (r *reader) bytes(l *[]byte) {
	n := r.length(0)
	if n > len(r.rest) {
		panic(failure)
	}
	*l = slices.Clone(r.rest[:n])
	r.rest = r.rest[n:]
}

func (r *reader) next() byte {
	if len(r.rest) == 0 {
		panic(failure)
	}
	b := r.rest[0]
	r.rest = r.rest[1:]
	return b
}

// finish fails, unless all is read.
func (r *reader) finish() {
	if len(r.rest) > 0 {
		panic(failure)
	}
}
