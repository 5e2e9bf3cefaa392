// Package codes writes values as bytes, and reads them again: numbers in base 128, lists as their lengths and elements. Layers whose encodings have parts in common share it.
package codes

// A Coder is taken through a value, number by number: it writes each one, or it reads each one into its place.
type Coder interface {
	// number writes a number, or reads it.
	number(n *int)
	// length writes how many elements a list has, or reads how many it is to have; it returns how many these are.
	length(n int) int
	// bytes writes bytes behind their number, or reads them.
	bytes(l *[]byte)
}

// Encode returns the encoding of a value through which pass takes a coder; false, if one of its numbers has no encoding.
func Encode[T any](x T, pass func(Coder, *T)) (l []byte, ok bool) {
	defer func() {
		if recover() != nil {
			l, ok = nil, false
		}
	}()
	w := &writer{}
	pass(w, &x)
	return w.written, true
}

// Decode returns the value of which bytes are the encoding; false, if there is none.
func Decode[T any](l []byte, pass func(Coder, *T)) (x T, ok bool) {
	defer func() {
		if recover() != nil {
			var none T
			x, ok = none, false
		}
	}()
	r := &reader{rest: l}
	pass(r, &x)
	r.finish()
	return x, true
}

// Number takes a coder through a number.
func Number(c Coder, n *int) { c.number(n) }

// Numbers takes a coder through one number after the other.
func Numbers(c Coder, l ...*int) {
	for _, n := range l {
		c.number(n)
	}
}

// Bytes takes a coder through bytes.
func Bytes(c Coder, l *[]byte) { c.bytes(l) }

// List takes a coder through a list. What is read is put into a list that is empty so far.
func List[E any](c Coder, l *[]E, pass func(Coder, *E)) {
	for i := range c.length(len(*l)) {
		if i == len(*l) {
			// The list grows with what is read: how many elements there are said to be may be anything.
			var next E
			*l = append(*l, next)
		}
		pass(c, &(*l)[i])
	}
}
