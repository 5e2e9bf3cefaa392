package clerks_test

import (
	"testing"

	"aneroid/api"
	"aneroid/clerks"
)

// expectBlock checks a block of a half, which is of one byte; -1 stands for a spoilt one.
func expectBlock(t *testing.T, p *clerks.Pair, half, at, x int) {
	t.Helper()
	l, e := p.Read(half, at)
	if x < 0 {
		expectError(t, l, e, api.ErrSpoilt)
	} else {
		expect(t, l, e, filled(byte(x)))
	}
}

func TestNewPair(t *testing.T) {
	p := clerks.NewPair()
	for half := range 2 {
		for at := range api.MaxBlocks {
			expectBlock(t, p, half, at, 0)
		}
	}
	if p.Down() || p.Writes() != 0 {
		t.Error(p.Down(), p.Writes())
	}
}

func TestPairArguments(t *testing.T) {
	p := clerks.NewPair()
	for _, c := range [][2]int{{-1, 0}, {2, 0}, {0, -1}, {1, 1024}, {5, 5000}, {-1 << 63, 1<<63 - 1}} {
		expectErrno(t, p.Write(c[0], c[1], filled(1)), api.ErrArg)
		l, e := p.Read(c[0], c[1])
		expectError(t, l, e, api.ErrArg)
		expectErrno(t, p.Spoil(c[0], c[1]), api.ErrArg)
	}
	for _, length := range []int{0, 63, 65, 128} {
		expectErrno(t, p.Write(0, 0, make([]byte, length)), api.ErrArg)
	}
	for _, c := range [][2]int{{-1, 0}, {0, -1}, {0, 3}, {-1 << 63, 0}} {
		expectErrno(t, p.Fuse(c[0], c[1]), api.ErrArg)
	}
	if p.Writes() != 0 {
		t.Error(p.Writes())
	}
	// What is no write at all does not burn the fuse, and ErrArg comes ahead of ErrDown.
	p.Fuse(0, 1)
	expectErrno(t, p.Write(2, 0, filled(1)), api.ErrArg)
	expectErrno(t, p.Write(0, 0, filled(1)), api.ErrDown)
	expectErrno(t, p.Write(2, 0, filled(1)), api.ErrArg)
}

// TestFates lets the power go at the second write, with each fate.
func TestFates(t *testing.T) {
	for fate, second := range []int{9, 2, -1} {
		p := clerks.NewPair()
		p.Write(1, 7, filled(9))
		expectErrno(t, p.Fuse(1, fate), api.OK)
		expectErrno(t, p.Write(0, 7, filled(1)), api.OK)
		if p.Down() {
			t.Error("down", fate)
		}
		expectErrno(t, p.Write(1, 7, filled(2)), api.ErrDown)
		expectErrno(t, p.Write(0, 1023, filled(3)), api.ErrDown)
		if !p.Down() || p.Writes() != 2 {
			t.Error(fate, p.Down(), p.Writes())
		}
		expectBlock(t, p, 0, 7, 1)
		expectBlock(t, p, 1, 7, second)
		expectBlock(t, p, 0, 1023, 0)
		p.Up()
		expectErrno(t, p.Write(1, 7, filled(4)), api.OK)
		expectBlock(t, p, 1, 7, 4)
		if p.Down() || p.Writes() != 3 {
			t.Error(fate, p.Down(), p.Writes())
		}
	}
}

func TestUp(t *testing.T) {
	p := clerks.NewPair()
	p.Fuse(0, 2)
	p.Up() // There is no fuse then.
	expectErrno(t, p.Write(0, 3, filled(1)), api.OK)
	p.Fuse(0, 0)
	p.Write(0, 3, filled(2))
	p.Fuse(0, 0) // while it is down
	expectErrno(t, p.Write(0, 3, filled(2)), api.ErrDown)
	p.Up()
	expectErrno(t, p.Write(0, 3, filled(3)), api.OK)
	p.Fuse(5, 2)
	p.Fuse(1, 1) // instead of the former one
	expectErrno(t, p.Write(0, 3, filled(4)), api.OK)
	expectErrno(t, p.Write(0, 3, filled(5)), api.ErrDown)
	expectBlock(t, p, 0, 3, 5)
}

func TestSpoil(t *testing.T) {
	p := clerks.NewPair()
	p.Write(0, 3, filled(1))
	p.Fuse(0, 0)
	p.Write(0, 4, filled(1))
	expectErrno(t, p.Spoil(0, 3), api.OK) // also if it is down
	expectErrno(t, p.Spoil(0, 3), api.OK)
	expectErrno(t, p.Spoil(1, 3), api.ErrPlace)
	expectErrno(t, p.Spoil(1, 4), api.OK)
	expectErrno(t, p.Spoil(0, 4), api.ErrPlace)
	expectBlock(t, p, 0, 3, -1)
	expectBlock(t, p, 1, 3, 0)
	expectBlock(t, p, 1, 4, -1)
	p.Up()
	expectErrno(t, p.Write(0, 3, filled(6)), api.OK)
	expectBlock(t, p, 0, 3, 6)
	expectErrno(t, p.Spoil(1, 3), api.OK)
	ruin(t, p, 9)
	expectBlock(t, p, 0, 9, -1)
	expectBlock(t, p, 1, 9, -1)
}

// A plainPair does what the chapter says of a pair, with maps.
type plainPair struct {
	bytes     map[[2]int]int
	spoilt    map[[2]int]bool
	fuse      bool
	left      int
	fate      int
	down      bool
	completed int
}

func newPlainPair() *plainPair {
	return &plainPair{bytes: map[[2]int]int{}, spoilt: map[[2]int]bool{}}
}

func (p *plainPair) put(at [2]int, x int) {
	p.bytes[at] = x
	delete(p.spoilt, at)
}

func (p *plainPair) write(at [2]int, x int) api.Errno {
	if p.down {
		return api.ErrDown
	}
	if p.fuse && p.left == 0 {
		if p.fate == 1 {
			p.put(at, x)
		}
		if p.fate == 2 {
			p.spoilt[at] = true
		}
		p.fuse, p.down = false, true
		return api.ErrDown
	}
	p.left--
	p.put(at, x)
	p.completed++
	return api.OK
}

// TestPairs compares a pair with a plain one, whatever is done.
func TestPairs(t *testing.T) {
	x := newDice(2)
	spoils, writes := map[api.Errno]int{}, map[api.Errno]int{}
	for range 300 {
		p, plain := clerks.NewPair(), newPlainPair()
		for range 60 {
			at := [2]int{x.IntN(2), []int{0, 1, 1023}[x.IntN(3)]}
			switch x.IntN(8) {
			case 0:
				plain.fuse, plain.left, plain.fate = true, x.IntN(4), x.IntN(3)
				expectErrno(t, p.Fuse(plain.left, plain.fate), api.OK)
			case 1:
				p.Up()
				plain.fuse, plain.down = false, false
			case 2:
				want := api.OK
				if plain.spoilt[[2]int{1 - at[0], at[1]}] {
					want = api.ErrPlace
				} else {
					plain.spoilt[at] = true
				}
				expectErrno(t, p.Spoil(at[0], at[1]), want)
				spoils[want]++
			default:
				b := x.IntN(256)
				e := plain.write(at, b)
				expectErrno(t, p.Write(at[0], at[1], filled(byte(b))), e)
				writes[e]++
			}
			for half := range 2 {
				for _, i := range []int{0, 1, 1023} {
					want := plain.bytes[[2]int{half, i}]
					if plain.spoilt[[2]int{half, i}] {
						want = -1
					}
					expectBlock(t, p, half, i, want)
				}
			}
			if p.Down() != plain.down || p.Writes() != plain.completed {
				t.Fatal(p.Down(), p.Writes(), plain)
			}
		}
	}
	enough(t, spoils[api.OK], 100)
	enough(t, spoils[api.ErrPlace], 100)
	enough(t, writes[api.OK], 100)
	enough(t, writes[api.ErrDown], 100)
}
