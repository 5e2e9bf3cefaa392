package clerks

import (
	"iter"

	"aneroid/api"
)

const (
	endBlock    = 0 // the block that tells the end
	firstRecord = 1 // where the blocks of records begin
)

// Store is a pair with records.
type Store struct{ *pair }

// NewStore returns a store that uses a pair.
func NewStore(p *Pair) *Store {
	if !p.isMade() {
		return nil
	}
	return &Store{p.pair}
}

// Put puts a block.
func (s *Store) Put(at int, l []byte) api.Errno {
	if !s.isMade() || !isPlace(0, at) || len(l) != blockBytes {
		return api.ErrArg
	}
	return s.put(at, block(l))
}

// Get returns a block.
func (s *Store) Get(at int) ([]byte, api.Errno) {
	if !s.isMade() || !isPlace(0, at) {
		return nil, api.ErrArg
	}
	b, e := s.get(at)
	if e != api.OK {
		return nil, e
	}
	return b[:], api.OK
}

// Recover makes both halves equal.
func (s *Store) Recover() api.Errno {
	if !s.isMade() {
		return api.ErrArg
	}
	for at := range api.MaxBlocks {
		if e := s.mend(at); e != api.OK {
			return e
		}
	}
	return api.OK
}

// Append appends a record.
func (s *Store) Append(l []byte) api.Errno {
	blocks, e := Blocks(l)
	if !s.isMade() || e != api.OK {
		return api.ErrArg
	}
	for _, e := range s.records() {
		if e != api.OK {
			return e
		}
	}
	// There is an end, as otherwise records would have told the error.
	end, _ := s.end()
	if end+len(blocks) > api.MaxBlocks {
		return api.ErrLimit
	}
	for _, b := range blocks {
		if e := s.put(end, block(b)); e != api.OK {
			return e
		}
		end++
	}
	// Only by this write the blocks become a record, so the power may go anywhere ahead of it.
	return s.put(endBlock, blockOfEnd(end))
}

// Records returns the records.
func (s *Store) Records() ([][]byte, api.Errno) {
	if !s.isMade() {
		return nil, api.ErrArg
	}
	var list [][]byte
	for l, e := range s.records() {
		if e != api.OK {
			return nil, e
		}
		list = append(list, l)
	}
	return list, api.OK
}

func (s *Store) isMade() bool { return s != nil && s.pair != nil }

// records yields the records; at last nothing with an error, if there is one.
func (s *Store) records() iter.Seq2[[]byte, api.Errno] {
	return func(yield func([]byte, api.Errno) bool) {
		list, e := s.filled()
		if e != api.OK {
			yield(nil, e)
			return
		}
		for len(list) > 0 {
			l, used, e := Record(list)
			if !yield(l, e) || e != api.OK {
				return
			}
			list = list[used:]
		}
	}
}

// filled returns the blocks of all records.
func (s *Store) filled() ([][]byte, api.Errno) {
	end, e := s.end()
	if e != api.OK {
		return nil, e
	}
	var list [][]byte
	for at := firstRecord; at < end; at++ {
		b, e := s.get(at)
		if e != api.OK {
			return nil, e
		}
		list = append(list, b[:])
	}
	return list, api.OK
}

// end returns the end: the block behind those of all records.
func (s *Store) end() (int, api.Errno) {
	b, e := s.get(endBlock)
	if e != api.OK {
		return 0, e
	}
	end := int(b[0])<<8 + int(b[1])
	if b != blockOfEnd(end) || end > api.MaxBlocks {
		return 0, api.ErrCode
	}
	return max(end, firstRecord), api.OK
}

// blockOfEnd returns the block that tells an end.
func blockOfEnd(end int) block { return block{byte(end >> 8), byte(end)} }

// get returns a block of the store.
func (p *pair) get(at int) (block, api.Errno) {
	for half := range p.halves {
		if !p.spoilt[half][at] {
			return p.halves[half][at], api.OK
		}
	}
	return block{}, api.ErrSpoilt
}

// put writes a block to both halves.
func (p *pair) put(at int, b block) api.Errno {
	for half := range p.halves {
		if e := p.write(half, at, b); e != api.OK {
			return e
		}
	}
	return api.OK
}

// mend makes a block equal on both halves.
func (p *pair) mend(at int) api.Errno {
	b, e := p.get(at)
	switch {
	case e != api.OK:
		return e
	case p.spoilt[0][at]:
		return p.write(0, at, b)
	case p.spoilt[1][at], p.halves[1][at] != b:
		return p.write(1, at, b)
	}
	return api.OK
}
