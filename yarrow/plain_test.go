package yarrow

import (
	"fmt"
	"math/rand/v2"
	"strings"
	"testing"

	"yarrow/api"
)

type plainCase struct{ pattern, want string }

func checkPlain(t *testing.T, cases []plainCase) {
	t.Helper()
	for _, c := range cases {
		got, place, errno := Plain(c.pattern)
		if got != c.want || place != 0 || errno != api.OK {
			t.Errorf("P4: Plain(%q) = %q, %d, %d, want %q, 0, OK", c.pattern, got, place, errno, c.want)
		}
		if len(got) > api.MaxPattern {
			continue
		}
		if again, _, _ := Plain(got); again != got {
			t.Errorf("P4: Plain of the plain %q is %q", got, again)
		}
	}
}

func TestPlainOfTheDocumentsExamples(t *testing.T) {
	checkPlain(t, []plainCase{
		{`[b-da]x|\.{00,1}`, `[a-d]x|\x2e?`},
		{`[^[:alnum:]]*$`, `[\x00-\x2f\x3a-\x40\x5b-\x60\x7b-\xff]*$`},
		{`(a|ab)(c|bcd)(d*)`, `(a|ab)(c|bcd)(d*)`},
	})
}

func TestPlainKeepsMarksGroupsAndWays(t *testing.T) {
	checkPlain(t, []plainCase{
		{"", ""}, {"^", "^"}, {"$", "$"}, {"^$", "^$"}, {"^|$", "^|$"}, {"^(a|b|)c|$", "^(a|b|)c|$"},
		{"|", "|"}, {"()", "()"}, {"()()", "()()"}, {"(|)", "(|)"}, {"((a)|(b))", "((a)|(b))"}, {"(a)+|(b){2}", "(a)+|(b){2}"},
		{"((((((a))))))", "((((((a))))))"}, {"(a)(b)(c)(d)(e)(f)(g)(h)(i)", "(a)(b)(c)(d)(e)(f)(g)(h)(i)"},
		{"((((((a))))))(b)(c)(d)", "((((((a))))))(b)(c)(d)"}, {"(((a)))((((((b))))))", "(((a)))((((((b))))))"},
		{`((((((a\([(]))))))[(](b)(c)(d)`, `((((((a\x28\x28))))))\x28(b)(c)(d)`},
	})
}

func TestPlainOfRepeats(t *testing.T) {
	checkPlain(t, []plainCase{
		{"a*b+c?", "a*b+c?"}, {"a{0,}", "a*"}, {"a{1,}", "a+"}, {"a{0,1}", "a?"}, {"a{2,}", "a{2,}"}, {"a{5,}", "a{5,}"},
		{"a{0}", "a{0}"}, {"a{0,0}", "a{0}"}, {"a{1}", "a{1}"}, {"a{1,1}", "a{1}"}, {"a{5}", "a{5}"}, {"a{5,5}", "a{5}"},
		{"a{0,2}", "a{0,2}"}, {"a{1,2}", "a{1,2}"}, {"a{0,5}", "a{0,5}"}, {"a{4,5}", "a{4,5}"},
		{"a{0000,01}", "a?"}, {"a{001,}", "a+"}, {"a{005}", "a{5}"}, {"a{02,0004}", "a{2,4}"}, {"(a?){3}", "(a?){3}"}, {".{2}[ab]*", ".{2}[a-b]*"},
	})
}

func TestPlainOfSetsAndClasses(t *testing.T) {
	checkPlain(t, []plainCase{
		{".", "."}, {"[a]", "a"}, {"[aaa-a]", "a"}, {"[,]", `\x2c`}, {"[ab]", "[a-b]"}, {"[abc]", "[a-c]"}, {"[ca]", "[ac]"}, {"[d-fa-c]", "[a-f]"}, {"[a-ce-g]", "[a-ce-g]"}, {"[e-ga-c]", "[a-ce-g]"},
		{`[\x00-\xff]`, "."}, {`[\x00-\x7f\x80-\xff]`, "."}, {`[^\x00-\xff]`, `[^\x00-\xff]`}, {`[^\x00-\x7f\x80-\xff]`, `[^\x00-\xff]`}, {`[^\x00-\xfe]`, `\xff`}, {`[^\x00-@B-\xff]`, "A"}, {`[^\x00]`, `[\x01-\xff]`}, {`[^\xff]`, `[\x00-\xfe]`},
		{"[*$.|(){}+?]", `[\x24\x28-\x2b\x2e\x3f\x7b-\x7d]`}, {`[\\\[\]\-\^]`, `[\x2d\x5b-\x5e]`}, {"[:a]", `[\x3aa]`}, {"[\x00-\x01\xfe-\xff]", `[\x00-\x01\xfe-\xff]`},
		{"[[:digit:]]", "[0-9]"}, {"[[:lower:]]", "[a-z]"}, {"[[:upper:]]", "[A-Z]"}, {"[[:alpha:]]", "[A-Za-z]"}, {"[[:alnum:]]", "[0-9A-Za-z]"},
		{"[[:space:]]", `[\x09-\x0d\x20]`}, {"[[:punct:]]", `[\x21-\x2f\x3a-\x40\x5b-\x60\x7b-\x7e]`},
		{"[[:upper:][:lower:]]", "[A-Za-z]"}, {"[_[:alpha:]0-9]", `[0-9A-Z\x5fa-z]`}, {"[^[:lower:]]", `[\x00-\x60\x7b-\xff]`},
		{"[[:alnum:][:punct:][:space:]]", `[\x09-\x0d\x20-\x7e]`},
	})
}

func TestPlainOfEachByte(t *testing.T) {
	for b := range 256 {
		raw, hex := string([]byte{byte(b)}), fmt.Sprintf(`\x%02x`, b)
		want := hex
		letter := strings.Contains("abcdefghijklmnopqrstuvwxyzABCDEFGHIJKLMNOPQRSTUVWXYZ0123456789", raw)
		if letter {
			want = raw
		}
		checkPlain(t, []plainCase{{hex, want}, {"[" + hex + "]", want}, {"[" + hex + "-" + hex + "]", want}})
		if !strings.Contains(`\^$.|()[*+?{`, raw) {
			checkPlain(t, []plainCase{{raw, want}})
		}
		if !strings.Contains(`\[]-^`, raw) {
			checkPlain(t, []plainCase{{"[" + raw + "]", want}})
		}
		if !letter {
			checkPlain(t, []plainCase{{`\` + raw, want}, {`[\` + raw + "]", want}})
		}
	}
}

func TestPlainAtTheLongest(t *testing.T) {
	a, dots := strings.Repeat("a", 60), strings.Repeat(`\.`, 30)
	checkPlain(t, []plainCase{{a, a}, {dots, strings.Repeat(`\x2e`, 30)}, {strings.Repeat("\xff", 60), strings.Repeat(`\xff`, 60)}})
	longest := "^" + strings.Repeat("[^a]", 14) + "$"
	checkPlain(t, []plainCase{{longest, "^" + strings.Repeat(`[\x00-\x60b-\xff]`, 14) + "$"}})
}

// writer makes patterns at random, each written in some way and in the plain way.
type writer struct {
	*rand.Rand
	groups int
}

func (w *writer) ways(depth int) (written, plain string) {
	for i := range 1 + w.IntN(2) {
		if i > 0 {
			written, plain = written+"|", plain+"|"
		}
		for range w.IntN(3) {
			a, b := w.single(depth)
			c, d := w.repeat()
			written, plain = written+a+c, plain+b+d
		}
	}
	return written, plain
}

func (w *writer) single(depth int) (written, plain string) {
	if w.IntN(3) == 0 && depth < api.MaxDepth && w.groups < api.MaxGroups {
		w.groups++
		a, b := w.ways(depth + 1)
		return "(" + a + ")", "(" + b + ")"
	}
	var held [256]bool
	written = "["
	others := w.IntN(2) == 0
	if others {
		written += "^"
	}
	for range 1 + w.IntN(3) {
		first := w.IntN(256)
		last := min(255, first+w.IntN(4)*w.IntN(40))
		written += w.inner(first)
		if first < last || w.IntN(4) == 0 {
			written += "-" + w.inner(last)
		}
		for b := first; b <= last; b++ {
			held[b] = true
		}
	}
	return written + "]", plainOf(held, others)
}

func (w *writer) inner(b int) string {
	raw := string([]byte{byte(b)})
	switch {
	case w.IntN(2) == 0:
		return fmt.Sprintf(`\x%02x`, b)
	case strings.Contains(`\[]-^`, raw):
		return `\` + raw
	}
	return raw
}

func (w *writer) repeat() (written, plain string) {
	least := w.IntN(6)
	most := least + w.IntN(6-least)
	noughts := strings.Repeat("0", w.IntN(3))
	switch w.IntN(6) {
	case 0:
		return fmt.Sprintf("{%s%d}", noughts, least), fmt.Sprintf("{%d}", least)
	case 1:
		return "{0,}", "*"
	case 2:
		return "{" + noughts + "2,}", "{2,}"
	case 3:
		return "", ""
	}
	plain = fmt.Sprintf("{%d,%d}", least, most)
	if least == most {
		plain = fmt.Sprintf("{%d}", least)
	} else if least == 0 && most == 1 {
		plain = "?"
	}
	return fmt.Sprintf("{%d,%s%d}", least, noughts, most), plain
}

// plainOf says the set again as P4 words it, byte by byte.
func plainOf(held [256]bool, others bool) string {
	text, count := "", 0
	has := func(b int) bool { return b >= 0 && b < 256 && held[b] != others }
	for b := range 256 {
		if !has(b) {
			continue
		}
		count++
		name := fmt.Sprintf(`\x%02x`, b)
		if b >= '0' && b <= '9' || b >= 'A' && b <= 'Z' || b >= 'a' && b <= 'z' {
			name = string(rune(b))
		}
		switch {
		case !has(b - 1):
			text += name
		case !has(b + 1):
			text += "-" + name
		}
	}
	switch count {
	case 0:
		return `[^\x00-\xff]`
	case 1:
		return text
	case 256:
		return "."
	}
	return "[" + text + "]"
}

func TestPlainOfPatternsMadeAtRandom(t *testing.T) {
	short := 0
	for seed := range uint64(8000) {
		w := &writer{Rand: rand.New(rand.NewPCG(seed, 1))}
		written, plain := w.ways(0)
		if len(written) > api.MaxPattern {
			continue
		}
		short++
		checkPlain(t, []plainCase{{written, plain}})
	}
	if short < 1000 {
		t.Errorf("only %d patterns were short enough to be looked at", short)
	}
}
