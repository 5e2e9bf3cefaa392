package clerks_test

import (
	"bytes"
	"slices"
	"testing"

	"aneroid/api"
	"aneroid/clerks"
)

func newStore() (*clerks.Pair, *clerks.Store) {
	p := clerks.NewPair()
	return p, clerks.NewStore(p)
}

// numbered is a block that has a number, so that all blocks of a store can differ.
func numbered(n int) []byte {
	b := filled(byte(n))
	b[1], b[63] = byte(n>>8), 5
	return b
}

// blockOfEnd is block 0 with an end.
func blockOfEnd(end int) []byte {
	b := make([]byte, 64)
	b[0], b[1] = byte(end/256), byte(end%256)
	return b
}

// contents are all blocks of a store; nothing stands for one that cannot be read.
func contents(s *clerks.Store) [][]byte {
	var all [][]byte
	for at := range api.MaxBlocks {
		b, _ := s.Get(at)
		all = append(all, b)
	}
	return all
}

func sameBlocks(a, b [][]byte) bool { return slices.EqualFunc(a, b, bytes.Equal) }

// expectEqualHalves checks that both halves can be read, and are equal.
func expectEqualHalves(t *testing.T, p *clerks.Pair) {
	t.Helper()
	for at := range api.MaxBlocks {
		x, e := p.Read(0, at)
		y, f := p.Read(1, at)
		if e != api.OK || f != api.OK || !bytes.Equal(x, y) {
			t.Fatal("halves differ", at, e, f)
		}
	}
}

func TestPutAndGet(t *testing.T) {
	p, s := newStore()
	expectErrno(t, s.Put(5, filled(1)), api.OK)
	expectBlock(t, p, 0, 5, 1)
	expectBlock(t, p, 1, 5, 1)
	if p.Writes() != 2 {
		t.Error(p.Writes())
	}
	p.Write(1, 5, filled(2))
	b, e := s.Get(5) // what half 0 has
	expect(t, b, e, filled(1))
	p.Spoil(0, 5)
	b, e = s.Get(5)
	expect(t, b, e, filled(2))
	ruin(t, p, 6)
	b, e = s.Get(6)
	expectError(t, b, e, api.ErrSpoilt)
	for _, at := range []int{-1, 1024} {
		expectErrno(t, s.Put(at, filled(1)), api.ErrArg)
		b, e := s.Get(at)
		expectError(t, b, e, api.ErrArg)
	}
	for _, length := range []int{0, 63, 65} {
		expectErrno(t, s.Put(0, make([]byte, length)), api.ErrArg)
	}
	if clerks.NewStore(nil) != nil || clerks.NewStore(&clerks.Pair{}) != nil {
		t.Error("a store without a pair")
	}
	// Two stores can use one pair.
	b, e = clerks.NewStore(p).Get(5)
	expect(t, b, e, filled(2))
}

// TestPutExamples are the examples of the chapter.
func TestPutExamples(t *testing.T) {
	p, s := newStore()
	p.Fuse(1, 2)
	expectErrno(t, s.Put(5, filled(8)), api.ErrDown)
	expectBlock(t, p, 0, 5, 8)
	expectBlock(t, p, 1, 5, -1)
	p.Up()
	expectErrno(t, s.Recover(), api.OK)
	expectBlock(t, p, 0, 5, 8)
	expectBlock(t, p, 1, 5, 8)
	if p.Writes() != 2 {
		t.Error(p.Writes())
	}

	p, s = newStore()
	p.Fuse(0, 2)
	expectErrno(t, s.Put(5, filled(8)), api.ErrDown)
	p.Up()
	expectErrno(t, s.Recover(), api.OK)
	expectBlock(t, p, 0, 5, 0)
	expectBlock(t, p, 1, 5, 0)
}

func TestRecover(t *testing.T) {
	p, s := newStore()
	p.Write(0, 3, filled(1))
	p.Write(1, 4, filled(2))
	p.Spoil(0, 5)
	p.Spoil(1, 1023)
	ruin(t, p, 6)
	writes := p.Writes()
	expectErrno(t, s.Recover(), api.ErrSpoilt)
	if p.Writes() != writes+3 {
		t.Error("the blocks ahead of 6 are recovered, no others", p.Writes())
	}
	for half := range 2 {
		expectBlock(t, p, half, 3, 1)
		expectBlock(t, p, half, 4, 0)
		expectBlock(t, p, half, 5, 0)
	}
	expectBlock(t, p, 1, 1023, -1)
	s.Put(6, filled(3))
	expectErrno(t, s.Recover(), api.OK)
	expectEqualHalves(t, p)
	// What needs no write needs no power.
	p.Fuse(0, 0)
	expectErrno(t, s.Recover(), api.OK)
	p.Write(0, 0, filled(1))
	expectErrno(t, s.Recover(), api.OK)
	p.Spoil(0, 7)
	expectErrno(t, s.Recover(), api.ErrDown)
	expectBlock(t, p, 0, 7, -1)
	p.Up()
	p.Fuse(0, 1)
	expectErrno(t, s.Recover(), api.ErrDown)
	expectBlock(t, p, 0, 7, 0)
}

func TestAppend(t *testing.T) {
	p, s := newStore()
	l, e := s.Records()
	expect(t, l, e, nil)
	expectErrno(t, s.Append([]byte{7}), api.OK)
	if p.Writes() != 4 {
		t.Error(p.Writes())
	}
	b, e := s.Get(0)
	expect(t, b, e, blockOfEnd(2))
	b, e = s.Get(1)
	expect(t, b, e, append([]byte{1, 1, 7}, make([]byte, 61)...))
	expectEqualHalves(t, p)
	expectErrno(t, s.Append(record(130, 1)), api.OK)
	expectErrno(t, s.Append(record(62, 2)), api.OK)
	if p.Writes() != 4+8+4 {
		t.Error(p.Writes())
	}
	b, e = s.Get(0)
	expect(t, b, e, blockOfEnd(6))
	l, e = s.Records()
	expect(t, l, e, [][]byte{{7}, record(130, 1), record(62, 2)})
	for _, length := range []int{0, 30001} {
		expectErrno(t, s.Append(record(length, 0)), api.ErrArg)
	}
}

// TestFull appends until there is room for nothing.
func TestFull(t *testing.T) {
	p, s := newStore()
	for range 2 {
		expectErrno(t, s.Append(record(30000, 1)), api.OK)
	}
	expectErrno(t, s.Append(record(55*62+1, 2)), api.ErrLimit) // 56 blocks
	if p.Writes() != 4*485 {
		t.Error(p.Writes())
	}
	expectErrno(t, s.Append(record(54*62, 2)), api.OK)
	expectErrno(t, s.Append(record(63, 2)), api.ErrLimit)
	expectErrno(t, s.Append(record(62, 3)), api.OK)
	b, e := s.Get(0)
	expect(t, b, e, blockOfEnd(1024))
	expectErrno(t, s.Append([]byte{1}), api.ErrLimit)
	l, e := s.Records()
	expect(t, l, e, [][]byte{record(30000, 1), record(30000, 1), record(54*62, 2), record(62, 3)})
}

// TestNoRecords reads stores with other things than records, in the order of the errors; Append returns the same ones.
func TestNoRecords(t *testing.T) {
	one, two := must(clerks.Blocks([]byte{7})), must(clerks.Blocks(record(63, 0)))
	behind := blockOfEnd(2)
	behind[63] = 1
	for i, c := range []struct {
		end    []byte
		blocks [][]byte
		ruined []int
		want   api.Errno
	}{
		{blockOfEnd(0), nil, []int{1}, api.OK},
		{blockOfEnd(1), nil, []int{1}, api.OK},
		{blockOfEnd(2), one, []int{2}, api.OK},
		{blockOfEnd(2), one, []int{0}, api.ErrSpoilt},
		{behind, one, nil, api.ErrCode},
		{behind, one, []int{1}, api.ErrCode},
		{blockOfEnd(1025), one, []int{1}, api.ErrCode},
		{blockOfEnd(65535), one, nil, api.ErrCode},
		{blockOfEnd(2), nil, nil, api.ErrCode},
		{blockOfEnd(2), two, nil, api.ErrCode},
		{blockOfEnd(3), two, nil, api.OK},
		{blockOfEnd(3), one, nil, api.ErrCode},
		{blockOfEnd(4), one, []int{3}, api.ErrSpoilt},
		{blockOfEnd(4), slices.Concat(two, one), nil, api.OK},
		{blockOfEnd(4), slices.Concat(one, two), nil, api.OK},
		{blockOfEnd(3), slices.Concat(one, two), nil, api.ErrCode},
		{blockOfEnd(1024), one, nil, api.ErrCode},
		{blockOfEnd(1024), one, []int{1023}, api.ErrSpoilt},
	} {
		p, s := newStore()
		s.Put(0, c.end)
		for j, b := range c.blocks {
			s.Put(j+1, b)
		}
		for _, at := range c.ruined {
			ruin(t, p, at)
		}
		l, e := s.Records()
		if e != c.want || e != api.OK && l != nil {
			t.Error(i, l, e)
		}
		writes := p.Writes()
		if e = s.Append([]byte{9}); e != c.want || e != api.OK && p.Writes() != writes {
			t.Error(i, e, p.Writes()-writes)
		}
	}
	// ErrArg comes first.
	_, s := newStore()
	s.Put(0, filled(1))
	expectErrno(t, s.Append(nil), api.ErrArg)
	expectErrno(t, s.Append([]byte{1}), api.ErrCode)
}

// A cut is a fuse with which something is interrupted.
type cut struct{ n, fate int }

// interrupted recovers a store, and is interrupted each time; then recovers it at last.
func interrupted(t *testing.T, p *clerks.Pair, s *clerks.Store, cuts []cut) {
	t.Helper()
	p.Up()
	for _, c := range cuts {
		p.Fuse(c.n, c.fate)
		s.Recover()
		p.Up()
	}
	expectErrno(t, s.Recover(), api.OK)
	expectEqualHalves(t, p)
}

// chains are some lists of cuts, with all fates.
func chains() [][]cut {
	all := [][]cut{nil}
	for x := range 3 {
		all = append(all, []cut{{0, x}}, []cut{{1, x}, {0, x}})
		for y := range 3 {
			all = append(all, []cut{{0, x}, {0, y}, {1, x}, {0, y}})
		}
	}
	return all
}

// TestPutIsWhole is P9.3; now and then other blocks are spoilt on one half.
func TestPutIsWhole(t *testing.T) {
	olds, news := 0, 0
	for n := range 4 {
		for fate := range 3 {
			for i, chain := range chains() {
				p, s := newStore()
				for at := range 8 {
					s.Put(at, numbered(at))
				}
				before := contents(s)
				if i%2 == 1 {
					p.Spoil(0, 3)
					p.Spoil(1, 6)
				}
				p.Fuse(n, fate)
				e := s.Put(5, filled(99))
				if e != api.OK && e != api.ErrDown || (e == api.OK) != (n >= 2) {
					t.Error(n, fate, e)
				}
				interrupted(t, p, s, chain)
				after := contents(s)
				if sameBlocks(after, before) && e != api.OK {
					olds++
					continue
				}
				before[5] = filled(99)
				if !sameBlocks(after, before) {
					t.Fatal(n, fate, chain)
				}
				news++
			}
		}
	}
	enough(t, olds, 10)
	enough(t, news, 10)
}

// TestAppendIsWhole is P9.4 for records of one block and of several ones.
func TestAppendIsWhole(t *testing.T) {
	olds, news := 0, 0
	for _, length := range []int{1, 62, 150} {
		before := [][]byte{record(70, 1), record(5, 2)}
		after := append(slices.Clone(before), record(length, 3))
		for n := range 2*((length+61)/62) + 4 {
			for fate := range 3 {
				for _, chain := range chains() {
					p, s := newStore()
					for _, l := range before {
						s.Append(l)
					}
					p.Fuse(n, fate)
					e := s.Append(record(length, 3))
					interrupted(t, p, s, chain)
					l := must(s.Records())
					switch {
					case same(l, after):
						news++
					case same(l, before) && e == api.ErrDown:
						olds++
					default:
						t.Fatal(length, n, fate, chain, e)
					}
					// What was left of the interrupted one is in nobody's way.
					expectErrno(t, s.Append(record(100, 4)), api.OK)
					further, e := s.Records()
					expect(t, further, e, append(l, record(100, 4)))
				}
			}
		}
	}
	enough(t, olds, 100)
	enough(t, news, 100)
}

// TestDecay is P9.5.
func TestDecay(t *testing.T) {
	x := newDice(3)
	for range 60 {
		p, s := newStore()
		for at := range api.MaxBlocks {
			s.Put(at, numbered(x.IntN(10000)))
		}
		if x.IntN(2) == 0 {
			p.Fuse(x.IntN(2), x.IntN(3))
			s.Put(x.IntN(api.MaxBlocks), numbered(1))
			p.Up()
			s.Recover()
		}
		before := contents(s)
		for range x.IntN(2000) {
			p.Spoil(x.IntN(2), x.IntN(api.MaxBlocks))
		}
		if !sameBlocks(contents(s), before) {
			t.Fatal("blocks are lost")
		}
		expectErrno(t, s.Recover(), api.OK)
		expectEqualHalves(t, p)
		if !sameBlocks(contents(s), before) {
			t.Fatal("blocks are not recovered")
		}
	}
}
