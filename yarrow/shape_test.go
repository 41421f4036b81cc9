package yarrow

import (
	"fmt"
	"regexp"
	"strings"
)

// The document's words on trees once more, as they are written there: whether a stretch can be matched is tried out in all ways, each time anew. Slow, and made in another way than the program, so that the two can be held against each other.

// shape is a part of a pattern.
type shape interface {
	can(text string) bool
	// meant tells the tree that is meant. The text must be one that the shape can match.
	meant(text string) string
	// fitting is a regular expression of the trees that fit.
	fitting() string
	// expression is a regular expression of the texts that match.
	expression() string
}

type (
	byteShape  string // the bytes that it holds
	groupShape struct {
		number int
		inside waysShape
	}
	repeatShape struct {
		single      shape
		least, most int // -1: any
	}
	wayShape  []shape
	waysShape []wayShape
)

func (b byteShape) can(text string) bool {
	return len(text) == 1 && strings.Contains(string(b), text)
}

func (b byteShape) meant(text string) string { return fmt.Sprintf("b%02x", text[0]) }

func (b byteShape) fitting() string {
	var all []string
	for i := range len(b) {
		all = append(all, fmt.Sprintf("b%02x", b[i]))
	}
	return "(?:" + strings.Join(all, "|") + ")"
}

func (b byteShape) expression() string { return "[" + regexp.QuoteMeta(string(b)) + "]" }

func (g groupShape) can(text string) bool { return g.inside.can(text) }

func (g groupShape) meant(text string) string {
	return fmt.Sprintf("(g%d %s)", g.number, g.inside.meant(text))
}

func (g groupShape) fitting() string { return fmt.Sprintf(`\(g%d %s\)`, g.number, g.inside.fitting()) }

func (g groupShape) expression() string { return "(?:" + g.inside.expression() + ")" }

// once is the repeat that is left when the piece has been done once.
func (r repeatShape) once() repeatShape {
	left := repeatShape{r.single, max(r.least-1, 0), r.most - 1}
	if r.most < 0 {
		left.most = -1
	}
	return left
}

// beginnings tells the ends of the beginnings that the piece can match while the rest can be matched, the longest first.
func (r repeatShape) beginnings(text string) []int {
	var all []int
	for end := len(text); end >= 0; end-- {
		if r.least == 0 && end == 0 {
			continue
		}
		if r.most != 0 && r.single.can(text[:end]) && r.once().can(text[end:]) {
			all = append(all, end)
		}
	}
	return all
}

func (r repeatShape) can(text string) bool {
	return text == "" && r.least == 0 || len(r.beginnings(text)) > 0
}

func (r repeatShape) times(text string) string {
	if text == "" && r.least == 0 {
		return ""
	}
	end := r.beginnings(text)[0]
	return " " + r.single.meant(text[:end]) + r.once().times(text[end:])
}

func (r repeatShape) meant(text string) string { return "(r" + r.times(text) + ")" }

func (r repeatShape) bounds() string {
	if r.most < 0 {
		return fmt.Sprintf("{%d,}", r.least)
	}
	return fmt.Sprintf("{%d,%d}", r.least, r.most)
}

func (r repeatShape) fitting() string {
	return `\(r(?: ` + r.single.fitting() + ")" + r.bounds() + `\)`
}

func (r repeatShape) expression() string { return "(?:" + r.single.expression() + ")" + r.bounds() }

func (w wayShape) can(text string) bool {
	if len(w) == 0 {
		return text == ""
	}
	for end := range len(text) + 1 {
		if w[0].can(text[:end]) && w[1:].can(text[end:]) {
			return true
		}
	}
	return false
}

func (w wayShape) meant(text string) string {
	switch len(w) {
	case 0:
		return "e"
	case 1:
		return w[0].meant(text)
	}
	told := "(s"
	for i, one := range w {
		end := len(text)
		for !one.can(text[:end]) || !w[i+1:].can(text[end:]) {
			end--
		}
		told += " " + one.meant(text[:end])
		text = text[end:]
	}
	return told + ")"
}

func (w wayShape) fitting() string {
	var all []string
	for _, one := range w {
		all = append(all, one.fitting())
	}
	switch len(w) {
	case 0:
		return "e"
	case 1:
		return all[0]
	}
	return `\(s ` + strings.Join(all, " ") + `\)`
}

func (w wayShape) expression() string {
	text := ""
	for _, one := range w {
		text += one.expression()
	}
	return text
}

func (w waysShape) can(text string) bool {
	for _, one := range w {
		if one.can(text) {
			return true
		}
	}
	return false
}

func (w waysShape) meant(text string) string {
	for i, one := range w {
		switch {
		case !one.can(text):
		case len(w) == 1:
			return one.meant(text)
		default:
			return fmt.Sprintf("(a%d %s)", i, one.meant(text))
		}
	}
	panic("none of the ways can match")
}

func (w waysShape) fitting() string {
	if len(w) == 1 {
		return w[0].fitting()
	}
	var all []string
	for i, one := range w {
		all = append(all, fmt.Sprintf("%d %s", i, one.fitting()))
	}
	return `\(a(?:` + strings.Join(all, "|") + `)\)`
}

func (w waysShape) expression() string {
	var all []string
	for _, one := range w {
		all = append(all, one.expression())
	}
	return strings.Join(all, "|")
}

// shaper reads the patterns that the tests make: without escapes, and of sets those that list their bytes.
type shaper struct {
	text   string
	groups int
}

func shapeOf(pattern string) waysShape {
	s := &shaper{text: strings.TrimSuffix(strings.TrimPrefix(pattern, "^"), "$")}
	return s.ways()
}

func (s *shaper) next() byte {
	b := s.text[0]
	s.text = s.text[1:]
	return b
}

func (s *shaper) ahead(bytes string) bool {
	return s.text != "" && strings.IndexByte(bytes, s.text[0]) >= 0
}

func (s *shaper) ways() waysShape {
	all := waysShape{{}}
	for s.text != "" && !s.ahead(")") {
		if s.ahead("|") {
			s.next()
			all = append(all, wayShape{})
			continue
		}
		last := &all[len(all)-1]
		*last = append(*last, s.piece())
	}
	return all
}

func (s *shaper) piece() shape {
	one := s.single()
	switch {
	case s.ahead("*"):
		s.next()
		return repeatShape{one, 0, -1}
	case s.ahead("+"):
		s.next()
		return repeatShape{one, 1, -1}
	case s.ahead("?"):
		s.next()
		return repeatShape{one, 0, 1}
	case s.ahead("{"):
		inside, behind, _ := strings.Cut(s.text[1:], "}")
		s.text = behind
		first, second, two := strings.Cut(inside, ",")
		switch {
		case !two:
			return repeatShape{one, numberOf(first), numberOf(first)}
		case second == "":
			return repeatShape{one, numberOf(first), -1}
		}
		return repeatShape{one, numberOf(first), numberOf(second)}
	}
	return one
}

func (s *shaper) single() shape {
	switch b := s.next(); b {
	case '(':
		s.groups++
		number := s.groups
		inside := s.ways()
		s.next()
		return groupShape{number, inside}
	case '[':
		inside, behind, _ := strings.Cut(s.text, "]")
		s.text = behind
		return byteShape(inside)
	case '.':
		// All that the texts of the tests have.
		return byteShape("abcABC\n")
	default:
		return byteShape([]byte{b})
	}
}
