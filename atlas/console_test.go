package atlas_test

import (
	"bytes"
	"strconv"
	"strings"
	"testing"

	"aneroid/api"
	"aneroid/atlas"
)

// expectConsole runs the commands of a dialogue, each of them in a line with the answer behind a bar.
func expectConsole(t *testing.T, parts ...string) {
	t.Helper()
	var script, want []string
	for line := range strings.Lines(strings.Join(parts, "")) {
		line = strings.TrimSpace(line)
		if line == "" {
			continue
		}
		command, answer, _ := strings.Cut(line, "|")
		script = append(script, strings.TrimSpace(command))
		want = append(want, strings.TrimSpace(answer))
	}
	got := strings.Split(string(atlas.Run([]byte(strings.Join(script, "\n")))), "\n")
	if len(got) != len(want)+1 || got[len(want)] != "" {
		t.Fatal(len(got), len(want))
	}
	for i := range want {
		if got[i] != want[i] {
			t.Errorf("%d: %s: %q, not %q", i, script[i], got[i], want[i])
		}
	}
}

// The base of the chapter's examples, for two clerks.
const opening = `station 1 0 0 0 0|ok
	station 2 3 4 0 0|ok
	wind 1 0|ok
	ticks 2 1|ok
	begin 2|ok
`

// draftOf is the sheet of the examples with a first point.
func draftOf(point string) string {
	return `paper 100 1000 0 9500 10500 2 1000 1000 1000 1000|ok
		point ` + point + `|ok
		rate 1 2|ok
		pen 1 0 0 3|ok
	`
}

// Both sheets of the examples, noted by the first clerk.
var examples = opening + draftOf("50 500 0") + `point 150 503 0|ok
	sheet 1 10 1 0|ok 1
` + draftOf("50 505 0") + `sheet 1 11 2 0|ok 2
`

func TestConsoleExample(t *testing.T) {
	expectConsole(t, `begin 1|error 100
		wind 1 0|ok`)
	expectConsole(t, examples, `levels 1 0 1 0|levels 9998 10001
		levels 1 0 1 1|levels 10001 10004
		atlas 1 0 2|atlas 0 2
		check|faults
		span 2 1|span 10001 10005
		sea 2|sea 10001 10005
		front 1 0 1 0 2|front 1
		read 1 12 1 0 1 10010 10020|ok 3
		atlas 1 0 2|atlas 71 2
		check|faults
		corrected|corrected 2 0 0
		span 2 1|span 10001 10005
	`)
}

func TestOpenings(t *testing.T) {
	expectConsole(t, `height 1 5 0 0|error 3
		station 7 1 2 10 20|ok
		height 7 5 30 40|ok
		height 8 6 0 0|error 3
		station 9 100 2000 0 0|ok
		height 7 6 0 0|error 3
		height 9 3 4 4000|ok
		height 9 10000 9 9|ok
		begin 2|error 100
		ticks 0 0|ok
		begin 1|error 100
		ticks 401 0|ok
		begin 1|error 100
		ticks 50 51|ok
		begin 1|error 100
		ticks 50 50|ok
		wind -1 0|ok
		begin 1|error 100
		wind 0 10001|ok
		begin 1|error 100
		wind 12000 10000|ok
		begin 0|error 100
		begin 9|error 100
		begin -1|error 100
		begin 8|ok
		begin 8|error 104
		read 8 0 9 10000 50 0 0|ok 1
		read 9 0 9 0 0 0 0|error 1
		read 0 0 9 0 0 0 0|error 1
		moved 8 0 7 6 1 2|ok 2
	`)
	// The base is judged by begin, and stays as it is where begin fails.
	expectConsole(t, `station 0 0 0 0 0|ok
		ticks 9 4|ok
		begin 1|error 100
		station 1 0 0 0 0|ok
		begin 1|error 100`)
	expectConsole(t, `ticks 9 4|ok
		begin 1|ok
		whole 1 0|whole 1
		atlas 1 10000 1|atlas 0 0
		check|faults
		conflicts 1|conflicts`)
	expectConsole(t, `station 4 0 0 0 0|ok
		height 4 0 1 1|ok
		ticks 1 0|ok
		begin 1|error 100`)
	expectConsole(t, strings.Repeat("station 1 0 0 0 0|ok\n", 33), "ticks 1 0|ok\nbegin 1|error 100")
}

// counts are the words of the tables, with how many numbers they have.
var counts = map[string]int{
	"station": 5, "height": 4, "wind": 2, "ticks": 2, "begin": 1,
	"paper": 10, "point": 3, "blot": 1, "rate": 2, "stop": 3, "pen": 4,
	"sheet": 4, "mark": 7, "fixmark": 7, "read": 7, "fixread": 9, "moved": 6, "file": 6, "undo": 4,
	"sync": 1, "send": 2, "deliver": 1, "lose": 1, "double": 1, "spoil": 3, "crash": 1, "settle": 0,
	"levels": 4, "known": 6, "front": 5, "whole": 2, "core": 2, "drops": 2, "homes": 3, "misfiled": 2, "conflicts": 1,
	"atlas": 3, "check": 0, "span": 2, "sea": 1, "corrected": 0, "trend": 1,
}

// openers are the words of the first table.
const openers = "station height wind ticks begin"

// TestTables checks, for each word, how many numbers it has, and when it comes.
func TestTables(t *testing.T) {
	for word, count := range counts {
		for args := range 66 {
			line := word + strings.Repeat(" 1", args)
			early, late := "|error 103\n", "|error 103\n"
			if args == count || word == "crash" && args > 0 && args <= api.MaxArgs {
				early, late = "|error 104\n", "|error 104\n"
				if strings.Contains(openers, word) {
					early = ""
				} else {
					late = ""
				}
			}
			if early != "" {
				expectConsole(t, line+early)
			}
			if late != "" {
				expectConsole(t, opening, line+late)
			}
		}
	}
	expectConsole(t, `wind 01 0|error 103
		nothing|error 103
		Wind 1 0|error 103
		stations 1 0 0 0 0|error 103
		`, opening, `wind 01 0|error 103
		nothing|error 103
		ok|error 103
		error 3|error 103
		faults|error 103
		levels 1 0 1 0 0|error 103
		known 1 0 0|error 103
	`)
}

// TestDrafts makes sheets with all that they can have, valid and invalid ones.
func TestDrafts(t *testing.T) {
	expectConsole(t, opening, `sheet 1 0 1 0|error 60
		paper 100 1000 0 9500 10500 3 990 1000 980 1010|ok
		pen 2 -1 3 4|ok
		rate 1 2|ok
		sheet 1 0 1 0|error 60
		rate 2 3|ok
		sheet 3 0 1 0|error 1
		sheet 1 0 3 0|error 60
		sheet 1 -1 1 0|error 60
		sheet 1 0 1 10001|error 60
		blot 1|ok
		stop 1 0 3|ok
		stop 0 1 1|ok
		point 50 500 1|ok
		sheet 1 10000 1 10000|ok 1
		sheet 1 0 1 0|error 60
		paper 100 1000 0 9500 10500 2 1000 1000 1000 1000|ok
		sheet 1 0 1 0|error 60
		rate 1 1|ok
		blot 1|ok
		blot 1|ok
		sheet 2 0 1 0|error 60
	`)
	// What stood in the draft is what the atlas has.
	script := `station 1 0 0 0 0
ticks 9 1
begin 1
paper 100 1000 1000 9500 10500 3 990 1000 980 1010
paper 100 1000 2000 9600 10600 3 990 1001 980 1010
pen 1 1 1 1
pen 2 -1 3 4
rate 1 2
rate 2 3
blot 0
blot 2
stop 1 0 3
stop 0 1 1
point 250 500 1
point 251 502 3
sheet 1 7 1 5
undo 1 8 1 1
`
	want := api.Sheet{
		Paper: api.Paper{Pitch: 100, Height: 1000, Radius: 2000, Low: 9600, High: 10600, Columns: 3, Along: span(990, 1001), Across: span(980, 1010)},
		Trace: []api.Point{point(250, 500, 1), point(251, 502, 3)},
		Blots: []int{0, 2},
		Drum:  api.Drum{Rates: set(1, 2, 2, 3), Stops: []api.Stop{{Column: 1, Ticks: span(0, 3)}, {Ticks: span(1, 1)}}},
		Pen:   api.Pen{Band: 2, Zero: span(-1, 3), Rate: 4},
	}
	b := api.Base{Stations: []api.Station{station(1, 0, 0, 0, 0)}, Ticks: 9, Term: 1, Clerks: 1}
	r := api.Register{Sheets: []api.Filed{{Station: 1, Week: 5, Sheet: want}}, Stations: b.Stations}
	a := must(atlas.Build(b, r, 5, 1))
	for tick := range 10 {
		s := must(atlas.SpanOf(a, 1, tick))
		got := runAll(script + lineOf("known", 1, 7, 100, 5, 1, tick) + lineOf("known", 1, 6, 100, 5, 1, tick) + lineOf("conflicts", 1))
		expect(t, got[len(got)-3:], api.OK, []string{answerOf("known", s.Lo, s.Hi), "error 3", "conflicts"})
	}
}

// answerOf returns a word with numbers.
func answerOf(word string, numbers ...int) string {
	return strings.TrimSpace(lineOf(word, numbers...))
}

// lineOf returns the line of a command, with its line feed.
func lineOf(word string, args ...int) string {
	return must(atlas.Print(api.Command{Word: word, Args: args})) + "\n"
}

// runAll returns the lines that are printed for a script.
func runAll(script string) []string {
	printed := string(atlas.Run([]byte(script)))
	return strings.Split(strings.TrimSuffix(printed, "\n"), "\n")
}

func TestNotes(t *testing.T) {
	expectConsole(t, examples, `mark 1 12 1 1 0 0 1|ok 3
		mark 1 12 1 1 2 0 1|error 91
		mark 1 12 1 9 0 0 1|error 91
		mark 1 12 0 1 0 0 1|error 60
		mark 1 12 1 1 0 2 1|error 60
		mark 2 12 1 1 0 0 1|error 91
		fixmark 1 13 1 3 1 2 2|ok 4
		fixmark 1 13 1 1 1 2 2|error 91
		read 1 14 2 0 1 10001 10003|ok 5
		read 1 14 2 0 3 10001 10003|error 60
		fixread 1 15 1 5 2 0 1 10002 10003|ok 6
		fixread 1 15 1 3 2 0 1 10002 10003|error 91
		fixread 1 15 1 3 0 0 0 0 0|ok 7
		fixread 1 15 1 3 0 0 1 0 0|error 60
		levels 1 0 2 1|levels 10002 10003
		moved 1 16 1 3 5 7|ok 8
		moved 1 16 1 3 5 7|error 91
		moved 1 16 1 4 7 5|error 60
		file 1 17 1 1 2 1|ok 9
		file 1 17 1 3 2 1|error 91
		levels 1 0 1 1|error 3
		levels 1 1 2 1|levels 10001 10004
		undo 1 18 1 9|ok 10
		undo 1 18 2 9|ok 11
		undo 1 18 0 9|error 60
		levels 1 1 2 1|error 3
		levels 1 0 1 1|levels 10001 10004
		conflicts 1|conflicts 1 11
		undo 1 10001 1 1|error 60
		undo 2 0 1 1|ok 1
		undo 2 0 1 1|ok 2
		conflicts 2|conflicts 2 1 2 2
		conflicts 3|error 3
		conflicts 0|error 3
	`)
}

func TestActs(t *testing.T) {
	expectConsole(t, examples, `sync 1|ok
		sync 3|error 1
		crash 1|ok
		send 1 2|ok
		send 1 1|error 1
		send 1 3|error 1
		send 3 1|error 1
		double 0|ok
		double 2|error 3
		levels 2 0 1 0|error 3
		deliver 0|ok
		levels 2 0 1 0|levels 9998 10001
		lose 0|ok
		lose 0|error 3
		deliver 0|error 3
		deliver -1|error 3
		read 2 12 1 0 0 10000 10000|ok 1
		levels 2 0 1 0|levels 10000 10000
		crash 2 0 0|ok
		levels 2 0 1 0|error 3
		deliver 0|error 3
		settle|ok
		levels 2 0 1 0|levels 9998 10001
		read 2 12 1 0 0 10000 10000|ok 1
		crash 2 0 3|error 1
		crash 3|error 1
		crash 2 -1 0|error 1
		crash 2 1 1 1 1 1 1 1 1 1 1 1 1 1 1 1 1 1|error 1
		levels 2 0 1 0|levels 10000 10000
		crash 2 100 1 1 1 1 1 1 1 1 1 1 1 1 1 1 1|ok
		levels 2 0 1 0|levels 10000 10000
		spoil 2 0 0|ok
		spoil 2 1 0|error 91
		spoil 2 2 0|error 1
		spoil 2 0 1024|error 1
		spoil 3 0 1|error 1
		sync 2|ok
		spoil 2 1 0|ok
		levels 1 0 1 0|levels 9998 10001
		settle|ok
		levels 1 0 1 0|levels 10000 10000
	`)
}

// TestCrashes is for the fates of a crash: the third write is the one that makes a record of a note.
func TestCrashes(t *testing.T) {
	const reading = "read 1 0 1 0 0 10000 10000|ok "
	for fates, count := range map[string]int{"": 0, " 2": 0, " 2 0": 0, " 1 2": 0, " 2 1": 1, " 2 2": 0, " 3 0": 1, " 2 2 0 2 0 1": 0} {
		expectConsole(t, opening, reading, "1\ncrash 1", fates, "|ok\n", reading, strconv.Itoa(count+1))
	}
}

func TestQuestions(t *testing.T) {
	asked := `levels C W S 1
		known C 100 100 W S 1
		front C W S 1 2
		homes C W S
		whole C W
		core C W
		drops C W
		misfiled C W
		atlas C W 2
	`
	ask := func(clerk, week, station string) string {
		return strings.NewReplacer("C", clerk, "W", week, "S", station).Replace(asked)
	}
	all := func(dialogue, answer string) string {
		return strings.ReplaceAll(dialogue, "\n", "|"+answer+"\n")
	}
	firstFour := func(dialogue string) string {
		return strings.Join(strings.SplitAfter(dialogue, "\n")[:4], "")
	}
	// No such clerk, then no such week, then no such sheet.
	expectConsole(t, examples, all(ask("3", "-1", "9"), "error 3"))
	expectConsole(t, examples, all(ask("0", "-1", "9"), "error 3"))
	expectConsole(t, examples, all(ask("1", "10001", "9"), "error 1"))
	expectConsole(t, examples, all(ask("1", "-1", "9"), "error 1"))
	expectConsole(t, examples, all(firstFour(ask("1", "0", "9")), "error 3"))
	expectConsole(t, examples, all(firstFour(ask("1", "5", "1")), "error 3"))
	expectConsole(t, examples, all(firstFour(ask("2", "0", "1")), "error 3"))
	expectConsole(t, examples, `levels 1 0 1 3|error 1
		levels 1 0 3 3|error 3
		front 1 0 1 2 2|error 1
		front 1 0 1 0 0|error 1
		front 1 0 9 0 0|error 3
		known 1 100 100 0 1 -1|error 1
		known 1 10 100 0 2 1|error 3
		known 1 11 1 0 2 1|error 3
		known 1 11 2 0 2 1|known 10001 10005
		whole 1 0|whole 1
		core 1 0|error 3
		drops 1 0|drops 1 0
		homes 1 0 1|homes 1 2
		misfiled 1 0|misfiled
		atlas 1 0 0|error 1
		atlas 1 0 401|error 1
		atlas 2 0 2|atlas 0 0
		read 1 12 1 0 1 10010 10020|ok 3
		levels 1 0 1 1|error 71
		known 1 12 2 0 1 1|known 10001 10004
		known 1 12 3 0 1 1|error 71
		known 1 11 3 0 1 1|known 10001 10004
		front 1 0 1 0 2|error 71
		whole 1 0|whole 0
		core 1 0|core 2 0 0
		drops 1 0|drops 1 1
		homes 1 0 1|homes 2
		misfiled 1 0|misfiled 0
		mark 1 12 1 1 1 0 0|ok 4
		core 1 0|core 1 0 0
		drops 1 0|drops 1 2
		homes 1 0 1|homes
		misfiled 1 0|misfiled
		read 1 12 1 1 1 10010 10020|ok 5
		whole 1 1|whole 1
		front 1 0 2 0 -3|error 71
	`)
}

// TestLimitsOfWeeks has a week that is too large for questions, and one with too many claims for corrections.
func TestLimitsOfWeeks(t *testing.T) {
	large := `station 1 0 0 0 0|ok
		ticks 400 0|ok
		begin 1|ok
		paper 100 1000 0 9500 10500 43 1000 1000 1000 1000|ok
		pen 1 0 0 3|ok
	` + strings.Repeat("rate 40 40|ok\n", 42)
	expectConsole(t, large, `sheet 1 0 1 0|ok 1
		levels 1 0 1 0|error 2
		whole 1 0|error 2
		homes 1 0 1|error 2
		atlas 1 0 1|error 2
		check|error 104
	`)
	reads := ""
	for i := range api.MaxSmall + 1 {
		reads += "read 1 0 1 0 1 10010 10020|" + answerOf("ok", i+3) + "\n"
	}
	expectConsole(t, examples, reads, `core 1 0|error 2
		drops 1 0|error 2
		atlas 1 0 1|atlas 71 0
		check|faults
		corrected|error 3
		span 1 0|error 101
	`)
}

func TestViews(t *testing.T) {
	before := `check|error 104
		span 1 0|error 104
		sea 1|error 104
		corrected|error 104
		trend 1|error 104
	`
	expectConsole(t, before, examples, before, `atlas 3 0 2|error 3
		`, before, `atlas 1 0 2|atlas 0 2
		span 1 0|span 9998 10001
		span 3 0|error 3
		span 1 3|error 101
		span 1 -1|error 101
		sea 3|error 3
		corrected|error 101
		trend 1|error 3
		atlas 1 0 0|error 1
		span 1 0|span 9998 10001
		moved 1 12 1 0 10 10|error 91
		moved 1 12 1 2 80 160|ok 3
		sea 1|sea 10001 10004
		file 1 13 1 1 1 2|ok 4
		span 1 0|span 9998 10001
		atlas 1 2 2|atlas 0 1
		span 1 0|span 9998 10001
		sea 1|sea 10101 10204
		sea 2|error 3
		trend 1|trend 97 2 203 2
		trend 2|error 3
		atlas 1 1 2|atlas 0 0
		trend 1|trend 97 2 203 2
		span 1 0|error 3
		atlas 1 2 2|atlas 0 1
		trend 1|trend 97 2 203 2
		atlas 1 5 2|atlas 0 0
		trend 1|trend 97 2 203 2
		file 1 14 1 1 1 8|ok 5
		atlas 1 8 2|atlas 0 1
		check|faults
		sea 1|sea 10101 10204
	`)
}

func TestLines(t *testing.T) {
	for script, want := range map[string]string{
		"":                           "",
		"\n":                         "\n",
		"\n\n":                       "\n\n",
		"wind 1 0":                   "ok\n",
		"wind 1 0\n":                 "ok\n",
		"wind 1 0\n\n":               "ok\n\n",
		"\nwind 1 0\n\nwind 1 0":     "\nok\n\nok\n",
		"wind 1 0\r\n":               "error 103\n",
		" \n":                        "error 103\n",
		"wind 1 0\x00\nwind 1 0":     "error 103\nok\n",
		"\xff\xfe\nwind 1 0\nx\n\ny": "error 103\nok\nerror 103\n\nerror 103\n",
	} {
		expect(t, string(atlas.Run([]byte(script))), api.OK, want)
	}
	if l := atlas.Run(nil); len(l) > 0 {
		t.Error(l)
	}
}

func TestScriptLimits(t *testing.T) {
	line := "wind 1 0\n"
	for _, count := range []int{1, 399, 400, 401, 5000} {
		want := strings.Repeat("ok\n", min(count, api.MaxCommands))
		expect(t, string(atlas.Run([]byte(strings.Repeat(line, count)))), api.OK, want)
		// Empty lines count as well.
		expect(t, string(atlas.Run([]byte(strings.Repeat("\n", count)+line))), api.OK, (strings.Repeat("\n", count) + "ok\n")[:min(count, api.MaxCommands)+3*max(0, min(1, 400-count))])
	}
	long := line + strings.Repeat("x", api.MaxScript-len(line))
	expect(t, string(atlas.Run([]byte(long))), api.OK, "ok\nerror 103\n")
	expect(t, string(atlas.Run([]byte(long+"x"))), api.OK, "error 2\n")
	expect(t, string(atlas.Run(bytes.Repeat([]byte("\n"), api.MaxScript))), api.OK, strings.Repeat("\n", api.MaxCommands))
	expect(t, string(atlas.Run(bytes.Repeat([]byte("\n"), api.MaxScript+1))), api.OK, "error 2\n")
}
