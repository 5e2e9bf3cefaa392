package atlas

import (
	"strconv"
	"strings"

	"aneroid/api"
)

// maxNumber is the greatest number of a command; the least one is its opposite.
const maxNumber = 1000000000

// Parse returns the command of a line.
func Parse(line string) (api.Command, api.Errno) {
	fields := strings.Split(line, " ")
	c := api.Command{Word: fields[0]}
	for _, field := range fields[1:] {
		// What is no number at all is found below, as it is printed otherwise.
		n, _ := strconv.Atoi(field)
		c.Args = append(c.Args, n)
	}
	if printed, e := Print(c); e != api.OK || printed != line {
		return api.Command{}, api.ErrCommand
	}
	return c, api.OK
}

// Print returns the line of a command.
func Print(c api.Command) (string, api.Errno) {
	if !isWord(c.Word) || len(c.Args) > api.MaxArgs {
		return "", api.ErrCommand
	}
	for _, n := range c.Args {
		if n < -maxNumber || n > maxNumber {
			return "", api.ErrCommand
		}
	}
	return lineOf(c.Word, c.Args), api.OK
}

func isWord(s string) bool {
	for i := range len(s) {
		if s[i] < 'a' || s[i] > 'z' {
			return false
		}
	}
	return s != ""
}

// lineOf returns a word and numbers with a blank ahead of each.
func lineOf(word string, numbers []int) string {
	var line strings.Builder
	line.WriteString(word)
	for _, n := range numbers {
		line.WriteString(" " + strconv.Itoa(n))
	}
	return line.String()
}
