package clerks

import (
	"slices"

	"aneroid/api"
)

// Pair is two halves of blocks.
type Pair struct{ *pair }

// A pair is what a Pair, and the stores that use it, have in common. (Its own methods take right arguments only.)
type pair struct {
	halves [2][api.MaxBlocks]block
	spoilt [2][api.MaxBlocks]bool
	fuse   *fuse // or nil, if there is none
	down   bool
	writes int
}

// A fuse lets the power go behind a number of writes.
type fuse struct{ left, fate int }

// Fates of the write at which the power goes.
const (
	fateNothing = 0
	fateWritten = 1
	fateSpoilt  = 2
)

// NewPair returns a pair.
func NewPair() *Pair { return &Pair{&pair{}} }

// Write writes a block of a half.
func (p *Pair) Write(half, at int, l []byte) api.Errno {
	if !p.isMade() || !isPlace(half, at) || len(l) != blockBytes {
		return api.ErrArg
	}
	return p.write(half, at, block(l))
}

// Read returns the bytes of a block of a half.
func (p *Pair) Read(half, at int) ([]byte, api.Errno) {
	if !p.isMade() || !isPlace(half, at) {
		return nil, api.ErrArg
	}
	if p.spoilt[half][at] {
		return nil, api.ErrSpoilt
	}
	return slices.Clone(p.halves[half][at][:]), api.OK
}

// Spoil spoils a block of a half.
func (p *Pair) Spoil(half, at int) api.Errno {
	if !p.isMade() || !isPlace(half, at) {
		return api.ErrArg
	}
	return p.spoil(half, at)
}

// Fuse sets the fuse.
func (p *Pair) Fuse(n, fate int) api.Errno {
	f := fuse{n, fate}
	if !p.isMade() || !f.isRight() {
		return api.ErrArg
	}
	p.fuse = &f
	return api.OK
}

// Up brings the power back.
func (p *Pair) Up() {
	if p.isMade() {
		p.up()
	}
}

// Down reports whether the power is gone.
func (p *Pair) Down() bool { return p.isMade() && p.down }

// Writes returns the number of writes.
func (p *Pair) Writes() int {
	if !p.isMade() {
		return 0
	}
	return p.writes
}

func (p *Pair) isMade() bool { return p != nil && p.pair != nil }

// write writes a block of a half, unless the power is gone, or goes.
func (p *pair) write(half, at int, b block) api.Errno {
	if p.down {
		return api.ErrDown
	}
	if f := p.fuse; f != nil {
		if f.left == 0 {
			p.fail(half, at, b)
			return api.ErrDown
		}
		f.left--
	}
	p.set(half, at, b)
	p.writes++
	return api.OK
}

// fail lets the power go at a write.
func (p *pair) fail(half, at int, b block) {
	switch p.fuse.fate {
	case fateWritten:
		p.set(half, at, b)
	case fateSpoilt:
		p.spoilt[half][at] = true
	}
	p.fuse, p.down = nil, true
}

func (p *pair) set(half, at int, b block) {
	p.halves[half][at] = b
	p.spoilt[half][at] = false
}

// spoil spoils a block of a half, unless it is spoilt on the other one.
func (p *pair) spoil(half, at int) api.Errno {
	if p.spoilt[1-half][at] {
		return api.ErrPlace
	}
	p.spoilt[half][at] = true
	return api.OK
}

func (p *pair) up() { p.fuse, p.down = nil, false }

func (f fuse) isRight() bool {
	return f.left >= 0 && (f.fate == fateNothing || f.fate == fateWritten || f.fate == fateSpoilt)
}

// isPlace reports whether there is such a block of a half.
func isPlace(half, at int) bool {
	return (half == 0 || half == 1) && between(at, 0, api.MaxBlocks-1)
}

func between(n, least, greatest int) bool { return least <= n && n <= greatest }
