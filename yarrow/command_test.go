package yarrow

import (
	"fmt"
	"math/rand/v2"
	"regexp"
	"strings"
	"testing"
)

// The document's words on the command once more, made in another way than the program: the arguments are held against regular expressions, and the lines are looked through by the searcher.

// wordedCommand is a command whose letters are one text.
type wordedCommand struct {
	letters, template, pattern string
	templated                  bool
}

var (
	lettersExpression  = regexp.MustCompile("^-[cinovx]+$")
	templateExpression = regexp.MustCompile(`(?s)^([^\\]|\\[0-9n\\])*$`)
	groupExpression    = regexp.MustCompile(`(?s)\\.`)
)

func readByWords(args []string) (c wordedCommand, ok bool) {
	for i := 0; i < len(args); i++ {
		switch {
		case lettersExpression.MatchString(args[i]):
			c.letters += args[i][1:]
			continue
		case args[i] == "-t" && i+1 < len(args):
			i++
			c.template, c.templated = args[i], true
			continue
		case args[i] == "--":
			i++
		case len(args[i]) > 1 && args[i][0] == '-':
			return c, false
		}
		if i != len(args)-1 {
			return c, false
		}
		c.pattern = args[i]
		return c, len(c.pattern) <= 60 && isPattern(c.pattern) && c.templateIsOne()
	}
	return c, false
}

func (c wordedCommand) templateIsOne() bool {
	for _, named := range groupExpression.FindAllString(c.template, -1) {
		if '0' <= named[1] && named[1] <= '9' && int(named[1]-'0') > strings.Count(c.pattern, "(") {
			return false
		}
	}
	return len(c.template) <= 100 && templateExpression.MatchString(c.template)
}

func (c wordedCommand) has(letter string) bool { return strings.Contains(c.letters, letter) }

// searcher looks through a line. With i both are written small, which says the same of the tests' patterns: they have no set of others.
func (c wordedCommand) searcher(line string) searcher {
	if c.has("i") {
		return newSearcher(strings.ToLower(c.pattern), strings.ToLower(line))
	}
	return newSearcher(c.pattern, line)
}

// selecting tells the match by which a line would be selected without v.
func (c wordedCommand) selecting(line string) []int {
	s := c.searcher(line)
	if !c.has("x") {
		return s.from(0)
	}
	if !s.whole.can(s.text) {
		return nil
	}
	return stretchesIn(s.whole.meant(s.text), strings.Count(c.pattern, "("), 0)
}

// matches tells all stretches of a line that are told.
func (c wordedCommand) matches(line string) (all [][]int) {
	switch {
	case c.has("v"):
		return nil
	case c.has("x"):
		return [][]int{c.selecting(line)}
	}
	s := c.searcher(line)
	for from := 0; from <= len(line); {
		found := s.from(from)
		switch {
		case found == nil:
			return all
		case found[0] == found[1]:
			from = found[0] + 1
		default:
			all = append(all, found)
			from = found[1]
		}
	}
	return all
}

func (c wordedCommand) told(line string, found []int) string {
	if !c.templated {
		return line[found[0]:found[1]]
	}
	return groupExpression.ReplaceAllStringFunc(c.template, func(named string) string {
		switch named[1] {
		case 'n':
			return "\n"
		case '\\':
			return `\`
		}
		group := int(named[1] - '0')
		if found[2*group] < 0 {
			return ""
		}
		return line[found[2*group]:found[2*group+1]]
	})
}

func linesByWords(input string) (lines []string, ok bool) {
	line := ""
	for i := range len(input) {
		if input[i] == '\n' {
			lines, line = append(lines, line), ""
			continue
		}
		line += input[i : i+1]
	}
	if line != "" {
		lines = append(lines, line)
	}
	for _, line := range lines {
		if len(line) > 100 {
			return nil, false
		}
	}
	return lines, len(input) <= 2000
}

func extractByWords(args []string, input string) (output string, status int) {
	c, ok := readByWords(args)
	lines, short := linesByWords(input)
	if !ok || !short {
		return "", 2
	}
	count := 0
	for i, line := range lines {
		if (c.selecting(line) != nil) == c.has("v") {
			continue
		}
		count++
		texts := []string{line}
		if c.has("o") || c.templated {
			texts = nil
			for _, found := range c.matches(line) {
				texts = append(texts, c.told(line, found))
			}
		}
		for _, text := range texts {
			if c.has("n") {
				output += fmt.Sprintf("%d:", i+1)
			}
			output += text + "\n"
		}
	}
	if c.has("c") {
		output = fmt.Sprintln(count)
	}
	if count == 0 {
		status = 1
	}
	return output, status
}

// argsAtRandom makes arguments that are mostly right.
func argsAtRandom(from *rand.Rand, pattern string) []string {
	var args []string
	for range from.IntN(4) {
		switch from.IntN(12) {
		case 0, 1, 2, 3:
			template := ""
			for range from.IntN(5) {
				template += []string{"x", "<", `\0`, `\0`, `\1`, `\1`, `\2`, `\n`, `\\`, "1", "n"}[from.IntN(11)]
			}
			args = append(args, "-t", template)
		case 4:
			args = append(args, []string{"-q", "-", "--", "b", "-t", `\`, "-tn", "-t-"}[from.IntN(8)])
		default:
			letters := "-"
			for range 1 + from.IntN(3) {
				letters += string("iinnnoooxxvc"[from.IntN(12)])
			}
			args = append(args, letters)
		}
	}
	if from.IntN(4) == 0 {
		args = append(args, "--")
	}
	args = append(args, pattern)
	if from.IntN(20) == 0 {
		args = append(args, "-n")
	}
	return args
}

// greatSomewhere writes some letters of a text great.
func greatSomewhere(from *rand.Rand, text string) string {
	changed := []byte(text)
	for i := range changed {
		if from.IntN(4) == 0 {
			changed[i] = strings.ToUpper(text)[i]
		}
	}
	return string(changed)
}

func TestExtractByTheDocumentsWords(t *testing.T) {
	var statuses [3]int
	told := 0
	for seed := range uint64(60000) {
		from := rand.New(rand.NewPCG(seed, 10))
		pattern := matchPattern(from, 1)
		if len(pattern) > 24 || !isPattern(pattern) {
			continue
		}
		args := argsAtRandom(from, marked(greatSomewhere(from, pattern))[from.IntN(4)])
		input := ""
		for range from.IntN(16) {
			input += string("aaabbc\n\n"[from.IntN(8)])
		}
		input = greatSomewhere(from, input)
		want, status := extractByWords(args, input)
		if got, gotStatus := Extract(args, input); got != want || gotStatus != status {
			t.Errorf("P10: Extract(%q, %q) = %q, %d, want %q, %d", args, input, got, gotStatus, want, status)
		}
		statuses[status]++
		told += strings.Count(want, "\n")
	}
	if min(statuses[0], statuses[1], statuses[2]) < 4000 || told < 15000 {
		t.Errorf("the statuses were %v, and %d lines told", statuses, told)
	}
}

// Short lists of words that look like options, in all orders.
func TestArgumentsByTheDocumentsWords(t *testing.T) {
	words := []string{"-n", "-xo", "-t", "-", "--", "a", "", "-q", `<\0>`, `\`, `(a)\1`}
	lists := [][]string{nil}
	for i := 0; i < len(lists); i++ {
		want, status := extractByWords(lists[i], "a\nba\n-\n")
		if got, gotStatus := Extract(lists[i], "a\nba\n-\n"); got != want || gotStatus != status {
			t.Errorf("P9: Extract(%q) = %q, %d, want %q, %d", lists[i], got, gotStatus, want, status)
		}
		if len(lists[i]) < 4 {
			for _, word := range words {
				lists = append(lists, append(lists[i][:len(lists[i]):len(lists[i])], word))
			}
		}
	}
}
