package atlas

import (
	"strings"

	"aneroid/api"
	"aneroid/clerks"
)

// Run returns what the console prints for a script.
func Run(script []byte) []byte {
	if len(script) > api.MaxScript {
		return []byte(refusal(api.ErrLimit) + "\n")
	}
	k := newConsole()
	var printed []byte
	rest := string(script)
reading:
	for count := 0; rest != ""; count++ {
		line, behind, _ := strings.Cut(rest, "\n")
		rest = behind
		switch {
		case count == api.MaxCommands:
			break reading
		case line != "":
			printed = append(printed, k.answer(line)...)
		}
		printed = append(printed, '\n')
	}
	return printed
}

// A console answers commands.
type console struct {
	orders map[string]order
	base   api.Base
	world  *clerks.World // nil ahead of begin
	draft  api.Sheet
	atlas  *api.Atlas // nil, if there is none
	shelf  []api.Atlas
}

// An order is what the tables say of a word.
type order struct {
	early bool   // whether it comes ahead of begin
	args  int    // how many numbers it has
	more  bool   // whether there may be further ones
	says  string // what is printed ahead of the numbers that does returns; ok, if it is empty
	does  func(args []int) ([]int, api.Errno)
}

func newConsole() *console {
	k := &console{orders: map[string]order{}}
	tables := []map[string]order{k.openings(), k.drafts(), k.notes(), k.acts(), k.questions(), k.views()}
	for i, table := range tables {
		for word, o := range table {
			o.early = i == 0
			if o.says == "" {
				o.says = "ok"
			}
			k.orders[word] = o
		}
	}
	return k
}

// answer returns what is printed for a line.
func (k *console) answer(line string) string {
	c, e := Parse(line)
	if e != api.OK {
		return refusal(e)
	}
	o, ok := k.orders[c.Word]
	if !ok || len(c.Args) < o.args || len(c.Args) > o.args && !o.more {
		return refusal(api.ErrCommand)
	}
	if o.early != (k.world == nil) {
		return refusal(api.ErrReady)
	}
	numbers, e := o.does(c.Args)
	if e != api.OK {
		return refusal(e)
	}
	return lineOf(o.says, numbers)
}

// refusal returns what is printed for an error.
func refusal(e api.Errno) string { return lineOf("error", []int{int(e)}) }
