package clerks

import (
	"slices"

	"aneroid/api"
)

const (
	blockBytes = 64
	headBytes  = 2 // of a block of a record: how much content it has, and whether it is the last one
	fullBlock  = blockBytes - headBytes
	maxRecord  = 30000
)

// A block is as many bytes as are written at once.
type block [blockBytes]byte

// Blocks returns the blocks of a record.
func Blocks(l []byte) ([][]byte, api.Errno) {
	if len(l) == 0 || len(l) > maxRecord {
		return nil, api.ErrArg
	}
	var list [][]byte
	for content := range slices.Chunk(l, fullBlock) {
		b := blockWith(content)
		list = append(list, b[:])
	}
	list[len(list)-1][1] = 1
	return list, api.OK
}

// Record returns the record whose blocks a list begins with.
func Record(list [][]byte) (l []byte, used int, e api.Errno) {
	for i, b := range list {
		content, last, ok := contentOf(b)
		if !ok || len(l)+len(content) > maxRecord {
			break
		}
		l = append(l, content...)
		if last {
			return l, i + 1, api.OK
		}
	}
	return nil, 0, api.ErrCode
}

// blockWith returns a block of a record, behind which further ones come.
func blockWith(content []byte) block {
	b := block{byte(len(content))}
	copy(b[headBytes:], content)
	return b
}

// contentOf returns the content of a block of a record, and whether the block is the last one; false, if it is none.
func contentOf(l []byte) (content []byte, last, ok bool) {
	if len(l) != blockBytes || l[0] < 1 || l[0] > fullBlock {
		return nil, false, false
	}
	content = l[headBytes : headBytes+l[0]]
	last = l[0] < fullBlock || l[1] == 1
	b := blockWith(content)
	if last {
		b[1] = 1
	}
	return content, last, block(l) == b
}

// blocksFor returns how many blocks a record has.
func blocksFor(l []byte) int { return (len(l) + fullBlock - 1) / fullBlock }
