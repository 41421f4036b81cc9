// Package extract is the command: it takes lines out of an input, or what matches in them.
package extract

import (
	"slices"
	"strconv"
	"strings"

	"yarrow/api"
	"yarrow/match"
	"yarrow/syntax"
)

// The statuses that the command ends with.
const (
	SomeSelected = 0
	NoneSelected = 1
	Wrong        = 2
)

// Command is what the arguments ask for, with all that they name read.
type Command struct {
	Options
	pattern  syntax.Pattern
	template Template
}

// New puts a command together. The template must be one for the pattern.
func New(options Options, pattern syntax.Pattern, template Template) Command {
	if options.AnySize {
		pattern = pattern.AnySize()
	}
	return Command{options, pattern, template}
}

// Lines takes an input apart, and tells whether neither it nor a line of it is too long.
func Lines(input string) ([]string, bool) {
	if len(input) > api.MaxInput {
		return nil, false
	}
	lines := strings.Split(input, "\n")
	// What is behind the last newline is a line only if something is there.
	if last := len(lines) - 1; lines[last] == "" {
		lines = lines[:last]
	}
	if slices.ContainsFunc(lines, func(line string) bool { return len(line) > api.MaxText }) {
		return nil, false
	}
	return lines, true
}

// Run goes through the lines, and tells the output and the status.
func (c Command) Run(lines []string) (output string, status int) {
	var out strings.Builder
	selected := 0
	for i, line := range lines {
		matcher := match.New(c.pattern, line)
		if (c.find(matcher) != nil) == c.Others {
			continue
		}
		selected++
		if !c.Count {
			c.tell(&out, i+1, c.textsOf(line, matcher))
		}
	}
	if c.Count {
		out.WriteString(strconv.Itoa(selected) + "\n")
	}
	if selected == 0 {
		return out.String(), NoneSelected
	}
	return out.String(), SomeSelected
}

// find tells the stretches of the match by which a line is selected, or nil.
func (c Command) find(matcher match.Matcher) []int {
	if c.Whole {
		return matcher.Whole()
	}
	return matcher.Search(0)
}

func (c Command) tell(out *strings.Builder, number int, texts []string) {
	for _, text := range texts {
		if c.Numbers {
			out.WriteString(strconv.Itoa(number) + ":")
		}
		out.WriteString(text + "\n")
	}
}

// textsOf tells what is told of a line that is selected.
func (c Command) textsOf(line string, matcher match.Matcher) []string {
	switch {
	case !c.Stretches:
		return []string{line}
	case c.Others:
		// Such a line was selected because nothing matches in it.
		return nil
	case c.Whole:
		return []string{c.template.Fill(line, matcher.Whole())}
	}
	var texts []string
	for _, found := range stretchesIn(line, matcher) {
		texts = append(texts, c.template.Fill(line, found))
	}
	return texts
}

// stretchesIn tells the matches in a line that are not empty, each looked for behind the one ahead.
func stretchesIn(line string, matcher match.Matcher) [][]int {
	var all [][]int
	from := 0
	// At the end of the line there are none but empty ones.
	for from < len(line) {
		found := matcher.Search(from)
		if found == nil {
			break
		}
		begin, end := found[0], found[1]
		if begin < end {
			all = append(all, found)
			from = end
		} else {
			// From its own end it would be found again and again.
			from = end + 1
		}
	}
	return all
}
