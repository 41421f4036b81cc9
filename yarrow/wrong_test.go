package yarrow

import (
	"math/rand/v2"
	"strings"
	"testing"

	"yarrow/api"
)

type wrongCase struct {
	pattern string
	place   int
}

func checkWrong(t *testing.T, cases []wrongCase) {
	t.Helper()
	for _, c := range cases {
		got, place, errno := Plain(c.pattern)
		if got != "" || place != c.place || errno != api.ErrPattern {
			t.Errorf("P3: Plain(%q) = %q, %d, %d, want \"\", %d, ErrPattern", c.pattern, got, place, errno, c.place)
		}
	}
}

func checkRight(t *testing.T, patterns ...string) {
	t.Helper()
	for _, pattern := range patterns {
		if _, place, errno := Plain(pattern); place != 0 || errno != api.OK {
			t.Errorf("P3: Plain(%q) = %d, %d, want 0, OK", pattern, place, errno)
		}
	}
}

func TestWrongOfTheDocumentsExamples(t *testing.T) {
	checkWrong(t, []wrongCase{{"a)", 1}, {"a{2,1}", 4}, {"(a", 2}})
}

func TestWrongLength(t *testing.T) {
	checkRight(t, strings.Repeat("a", 60), strings.Repeat("|", 60), strings.Repeat(" ", 60))
	checkWrong(t, []wrongCase{{strings.Repeat("a", 59) + "(", 60}, {strings.Repeat("a", 59) + ")", 59}, {strings.Repeat("a", 59) + "{", 60}, {strings.Repeat("a", 59) + `\`, 60}, {strings.Repeat("a", 59) + "[", 60}})
	for _, pattern := range []string{strings.Repeat("a", 61), strings.Repeat("a", 60) + ")", ")" + strings.Repeat("a", 60), strings.Repeat("(", 61), strings.Repeat("\x00", 1000000)} {
		if got, place, errno := Plain(pattern); got != "" || place != 0 || errno != api.ErrLong {
			t.Errorf("P3: Plain of %d bytes = %q, %d, %d, want \"\", 0, ErrLong", len(pattern), got, place, errno)
		}
	}
}

func TestWrongBrackets(t *testing.T) {
	checkRight(t, "((((((a))))))", "((((((a))))))(b)(c)(d)", "(a)(b)(c)(d)(e)(f)(g)(h)(i)")
	checkWrong(t, []wrongCase{
		{")", 0}, {"())", 2}, {"(", 1}, {"((a)", 4}, {"(a|", 3}, {"(]", 2}, {`(a\)`, 4}, {"([)]", 4},
		{"((((((", 6}, {"(((((((", 6}, {"(((((((a)))))))", 6}, {"((((((a))))))((((", 16}, {"(((((a)(((b", 9}, {"a(b(c(d(e(f(g(", 13}, {`((((((\(((`, 8},
		{"()()()()()()()()()(", 18}, {"(a)(b)(c)(d)(e)(f)(g)(h)(i)(j)", 27}, {"(((()())()))()()()(", 18}, {"((((((a))))))(b)(c)(d)(e)", 22}, {"()()()()()()()()()a)", 19},
	})
}

func TestWrongMarks(t *testing.T) {
	checkRight(t, "^a$", "^|$", `\^\$`, "^(a)*$")
	checkWrong(t, []wrongCase{{"^^", 1}, {"a^", 1}, {"|^", 1}, {"(^", 1}, {"$a", 1}, {"$$", 1}, {"$|", 1}, {"a$)", 2}, {"(a$", 2}, {"(a|$)", 3}, {"^*", 1}, {"^$*", 2}})
}

func TestWrongRepeats(t *testing.T) {
	checkRight(t, "a{5}", "a{0,5}", "a{00000005}", "a{2,02}", "a{2,2}", "a{5,}", "]*", "}+", "a}", ",{1}")
	checkWrong(t, []wrongCase{
		{"*", 0}, {"+", 0}, {"?", 0}, {"{1}", 0}, {"|*", 1}, {"(+)", 1}, {"()|?", 3}, {"a**", 2}, {"a+?", 2}, {"a?{1}", 2}, {"a{1}*", 4}, {"a{1}{1}", 4},
		{"a{", 2}, {"a{}", 2}, {"a{,1}", 2}, {"a{-1}", 2}, {"a{ 1}", 2}, {"a{1", 3}, {"a{1 }", 3}, {"a{1,", 4}, {"a{1,,", 4}, {"a{1,2", 5}, {"a{1,2,", 5}, {"a{1,]", 4},
		{"a{6}", 2}, {"a{9", 2}, {"a{06}", 3}, {"a{10}", 3}, {"a{55}", 3}, {"a{0,6}", 4}, {"a{0,06}", 5}, {"a{0,15}", 5}, {"a{99999999999999999999999}", 2}, {"a{000000000000000000000000018446744073709551617}", 28},
		{"a{2,1}", 4}, {"a{5,4}", 4}, {"a{1,0}", 5}, {"a{1,00}", 6}, {"a{1,00", 6}, {"a{3,002}", 6}, {"a{3,0,", 5}, {"a{5,0x", 5},
	})
}

func TestWrongSets(t *testing.T) {
	checkRight(t, "[a-a]", "[$(|.]", `[\]]`, "[a-b]", `[\x00-\x00]`, "[ -~]", `[b-\x62]`, `[b-\x70]`, `[a-\{]`, "[:digit:]")
	checkWrong(t, []wrongCase{
		{"[", 1}, {"[]", 1}, {"[]]", 1}, {"[-", 1}, {"[^", 2}, {"[^]", 2}, {"[^^", 2}, {"[^-", 2}, {"[a", 2}, {"[a^", 2}, {"[a-", 3}, {"[a-]", 3}, {"[a--", 3}, {"[a-^", 3}, {"[a-[", 3}, {"[a-b", 4}, {"[a-b-", 4}, {"[ab-", 4},
		{"[b-a]", 3}, {"[\x80-\x7f]", 3}, {`[b-\a`, 4}, {`[b-\.]`, 4}, {`[b-\x5`, 5}, {`[b-\x6`, 6}, {`[b-\x61]`, 6}, {`[\x62-a]`, 6}, {`[\.-\-]`, 5}, {"[\xff-\\\xfe]", 4}, {`[\xff-\xfe]`, 9}, {`[\xff-\xe`, 8}, {`[\xff-`, 6},
	})
}

func TestWrongClasses(t *testing.T) {
	for _, class := range []string{"digit", "lower", "upper", "alpha", "alnum", "space", "punct"} {
		whole := "[[:" + class + ":]]"
		checkRight(t, whole, "[^a"+whole[1:])
		for i := 1; i < len(whole); i++ {
			checkWrong(t, []wrongCase{{whole[:i], i}})
			if i > 1 && i < len(whole)-1 {
				checkWrong(t, []wrongCase{{whole[:i] + "_" + whole[i:], i}})
			}
		}
	}
	checkWrong(t, []wrongCase{
		{"[[", 2}, {"[[]", 2}, {"[[a", 2}, {"[[::]]", 3}, {"[[:]]", 3}, {"[[:alp:]]", 6}, {"[[:al:", 5}, {"[[:aln", 6}, {"[[:alnha", 6}, {"[[:alphas", 8}, {"[[:upped", 7}, {"[[:Alpha:]]", 3}, {"[[:print:]]", 4}, {"[[:^digit:]]", 3}, {"[[:digit:]-", 10}, {"[a-[:digit:]]", 3}, {"[[:digit:]", 10}, {"[[:digit:]^", 10}, {"[[:\xc4\xb1", 3},
	})
}

func TestWrongEscapes(t *testing.T) {
	checkRight(t, `\\`, `\ `, "\\\x00", "\\\xff", `\x00`, `\xff`, `\x9a`, `\x411`)
	checkWrong(t, []wrongCase{{`\`, 1}, {`a\`, 2}, {`\a`, 1}, {`\n`, 1}, {`\Z`, 1}, {`\0`, 1}, {`\9`, 1}, {`\X41`, 1}, {`\x`, 2}, {`\xg`, 2}, {`\xA`, 2}, {`\x-1`, 2}, {`\x4`, 3}, {`\x4g`, 3}, {`\x4F`, 3}, {`\x4:`, 3}, {`[\`, 2}, {`[\a]`, 2}, {`[\x`, 3}, {`[\x4`, 4}, {`[\x4]`, 4}, {`[\x4/`, 4}})
}

func checkByGrammar(t *testing.T, text string) {
	t.Helper()
	_, place, errno := Plain(text)
	if isPattern(text) {
		if place != 0 || errno != api.OK {
			t.Errorf("P3: Plain(%q) = %d, %d, want 0, OK", text, place, errno)
		}
		return
	}
	if want := wrongPlace(text); place != want || errno != api.ErrPattern {
		t.Errorf("P3: Plain(%q) = %d, %d, want %d, ErrPattern", text, place, errno, want)
	}
}

func TestPlaceByTheGrammarOfAllShortTexts(t *testing.T) {
	const bytes = `ax0^$.|()[]-{},*\:`
	for first := range 256 {
		checkByGrammar(t, string([]byte{byte(first)}))
		for second := range 256 {
			checkByGrammar(t, string([]byte{byte(first), byte(second)}))
		}
	}
	for i := range len(bytes) * len(bytes) * len(bytes) {
		checkByGrammar(t, string([]byte{bytes[i%18], bytes[i/18%18], bytes[i/18/18]}))
	}
}

// Words, not bytes alone, so that many of the texts come far before they go wrong.
func TestPlaceByTheGrammarOfTextsAtRandom(t *testing.T) {
	words := strings.Split(`a b f x 0 1 2 5 6 ^ $ . | | ( ( ( ) ) [ [ ] ] - - { { } } , , * ? \ \ \x \x6 \x61 \x62 : [: :] digit al alpha alnum a{2, a{0 [b- [[: 00 g`, " ")
	right := 0
	for seed := range uint64(4000) {
		from := rand.New(rand.NewPCG(seed, 2))
		text := ""
		for range 1 + from.IntN(9) {
			text += words[from.IntN(len(words))]
		}
		checkByGrammar(t, text)
		if isPattern(text) {
			right++
		}
	}
	if right < 200 {
		t.Errorf("only %d of the texts were patterns", right)
	}
}

// One byte of a pattern changed, so that what is deep inside is gone through too.
func TestPlaceByTheGrammarOfSpoiltPatterns(t *testing.T) {
	for seed := range uint64(1500) {
		w := &writer{Rand: rand.New(rand.NewPCG(seed, 3))}
		text, _ := w.ways(0)
		if text == "" || len(text) > 40 {
			continue
		}
		spoilt := []byte(text)
		spoilt[w.IntN(len(spoilt))] = `()[]{}-^$|*\x0a5f9`[w.IntN(18)]
		checkByGrammar(t, string(spoilt))
	}
}
