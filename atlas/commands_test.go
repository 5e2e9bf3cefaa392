package atlas_test

import (
	"math"
	"slices"
	"strconv"
	"strings"
	"testing"

	"aneroid/api"
	"aneroid/atlas"
)

func command(word string, args ...int) api.Command { return api.Command{Word: word, Args: args} }

// TestCommands parses lines and prints them again.
func TestCommands(t *testing.T) {
	long := strings.Repeat("z", 70000)
	many := slices.Repeat([]int{-12}, api.MaxArgs)
	for line, want := range map[string]api.Command{
		"wind 1 0":                       command("wind", 1, 0),
		"a":                              command("a"),
		"settle":                         command("settle"),
		"abcxyz 0":                       command("abcxyz", 0),
		"x -1 10 -10 100":                command("x", -1, 10, -10, 100),
		"x 1000000000 -1000000000":       command("x", 1000000000, -1000000000),
		long:                             command(long),
		"m" + strings.Repeat(" -12", 64): command("m", many...),
	} {
		c, e := atlas.Parse(line)
		expect(t, c, e, want)
		if len(c.Args) != len(want.Args) {
			t.Error(line, c)
		}
		got, e := atlas.Print(want)
		expect(t, got, e, line)
	}
}

// TestNoCommands has lines that are none.
func TestNoCommands(t *testing.T) {
	for _, line := range []string{
		"", " ", "wind 01 0", "wind 1 00", "wind -0", "wind +1", "wind --1", "wind -", "wind 1-", "wind -01",
		" wind", "wind ", "wind  1", "wind 1 ", "wind 1  2", "wind\t1", "wind 1\n", "\n", "wind 1\r", "wind\n1",
		"1", "1 wind", "1 2", "-1", "Wind 1", "wInd", "wind1", "wind_", "wind-1", "wind,1", "wind.", "wänd 1", "win\x00d", "{", "`", "\xff",
		"wind x", "wind 1 x", "wind 1x", "wind 0x1", "wind 1e3", "wind 1.0", "wind 1_0", "wind ١", "wind 1,2",
		"x 1000000001", "x -1000000001", "x 0 1000000001", "x 9223372036854775807", "x 9223372036854775808", "x -9223372036854775809", "x 18446744073709551617", "x 99999999999999999999999999",
		"x" + strings.Repeat(" 1", 65), "x" + strings.Repeat(" 1", 40000), "x" + strings.Repeat(" ", 70000), strings.Repeat("x ", 30),
	} {
		c, e := atlas.Parse(line)
		expectError(t, c, e, api.ErrCommand)
	}
}

func TestNothingToPrint(t *testing.T) {
	for _, c := range []api.Command{
		{}, command("", 1), command("A"), command("a b"), command("a "), command("é"), command("a\n"), command("\xff"),
		command("a", 1000000001), command("a", 3, -1000000001, 3), command("a", math.MinInt), command("a", math.MaxInt),
		command("a", make([]int, 65)...), command("a", make([]int, 1000)...),
	} {
		line, e := atlas.Print(c)
		expectError(t, line, e, api.ErrCommand)
	}
}

// TestRandomLines checks that Parse and Print undo one another, whatever lines there are.
func TestRandomLines(t *testing.T) {
	x := newDice(8)
	commands := 0
	for range 200000 {
		var line []byte
		for range x.from(1, 9) {
			line = append(line, "ab z  0019--+\n{\xc3"[x.IntN(16)])
		}
		c, e := atlas.Parse(string(line))
		if e != api.OK {
			expectError(t, c, e, api.ErrCommand)
			continue
		}
		commands++
		got, e := atlas.Print(c)
		expect(t, got, e, string(line))
		// What the line has is what the command has.
		fields := strings.Fields(string(line))
		if fields[0] != c.Word || len(fields) != len(c.Args)+1 {
			t.Fatal(string(line), c)
		}
		for i, n := range c.Args {
			if m, _ := strconv.Atoi(fields[i+1]); m != n {
				t.Fatal(string(line), c)
			}
		}
	}
	enough(t, "commands", commands, 3000)
	for range 3000 {
		c := command("q", some(x, func() int { return int(x.Uint64()) >> (1 + x.IntN(63)) % 2000000000 })...)
		line, e := atlas.Print(c)
		if e != api.OK {
			continue
		}
		back, e := atlas.Parse(line)
		expect(t, back, e, c)
	}
}
