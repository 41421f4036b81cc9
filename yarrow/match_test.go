package yarrow

import (
	"math/rand/v2"
	"regexp"
	"strings"
	"testing"

	"yarrow/api"
)

type matchCase struct{ pattern, text, want string }

func checkMatch(t *testing.T, cases []matchCase) {
	t.Helper()
	for _, c := range cases {
		got, is, errno := Match(c.pattern, c.text)
		if got != c.want || is != (c.want != "") || errno != api.OK {
			t.Errorf("P5: Match(%q, %q) = %q, %v, %d, want %q", c.pattern, c.text, got, is, errno, c.want)
		}
		if !is {
			continue
		}
		if flat, place, errno := Flat(got); flat != c.text || place != 0 || errno != api.OK {
			t.Errorf("P6: Flat(%q) = %q, %d, %d, want %q, 0, OK", got, flat, place, errno, c.text)
		}
		if fits, errno := Fits(c.pattern, got); !fits || errno != api.OK {
			t.Errorf("P6: Fits(%q, %q) = %v, %d, want true, OK", c.pattern, got, fits, errno)
		}
	}
}

func TestMatchOfTheDocumentsExamples(t *testing.T) {
	checkMatch(t, []matchCase{
		{"(a|ab)(c|bcd)(d*)", "abcd", "(s (g1 (a1 (s b61 b62))) (g2 (a0 b63)) (g3 (r b64)))"},
		{"(a*)*", "", "(r)"}, {"(a*)+", "", "(r (g1 (r)))"}, {"a|", "", "(a1 e)"},
	})
}

func TestMatchOfPlainThings(t *testing.T) {
	checkMatch(t, []matchCase{
		{"", "", "e"}, {"", "\x00", ""}, {"a", "a", "b61"}, {"a", "A", ""}, {"a", "", ""}, {"a", "aa", ""}, {"abc", "abc", "(s b61 b62 b63)"}, {"abc", "abd", ""}, {"abc", "ab", ""},
		{".", "\x00", "b00"}, {".", "\xff", "bff"}, {".", "\n", "b0a"}, {".", "", ""}, {`\.`, ".", "b2e"}, {`\.`, "a", ""}, {`\x41`, "A", "b41"},
		{"[b-d]", "b", "b62"}, {"[b-d]", "d", "b64"}, {"[b-d]", "a", ""}, {"[b-d]", "e", ""}, {"[^b-d]", "e", "b65"}, {"[^b-d]", "c", ""}, {"[[:digit:]x]", "7", "b37"}, {`[^\x00-\xff]`, "a", ""}, {`[^\x00-\xff]*`, "", "(r)"}, {`[^\x00-\xff]|`, "", "(a1 e)"},
		{"()", "", "(g1 e)"}, {"(())", "", "(g1 (g2 e))"}, {"()()", "", "(s (g1 e) (g2 e))"}, {"(a)(b)", "ab", "(s (g1 b61) (g2 b62))"}, {"((a)(b))(c)", "abc", "(s (g1 (s (g2 b61) (g3 b62))) (g4 b63))"}, {"]}", "]}", "(s b5d b7d)"},
		{"(a)(b)(c)(d)(e)(f)(g)(h)(i)", "abcdefghi", "(s (g1 b61) (g2 b62) (g3 b63) (g4 b64) (g5 b65) (g6 b66) (g7 b67) (g8 b68) (g9 b69))"}, {"((((((a))))))", "a", "(g1 (g2 (g3 (g4 (g5 (g6 b61))))))"},
	})
}

// The marks are for Search alone.
func TestMatchDoesNotLookAtTheMarks(t *testing.T) {
	checkMatch(t, []matchCase{{"^a", "a", "b61"}, {"a$", "a", "b61"}, {"^$", "", "e"}, {"^", "a", ""}, {"$", "a", ""}, {"^a|b$", "b", "(a1 b62)"}, {"^a*$", "aa", "(r b61 b61)"}})
}

func TestMatchOfWays(t *testing.T) {
	checkMatch(t, []matchCase{
		{"a|a", "a", "(a0 b61)"}, {"b|a|a", "a", "(a1 b61)"}, {"|", "", "(a0 e)"}, {"|a", "a", "(a1 b61)"}, {"a|b|ab", "ab", "(a2 (s b61 b62))"}, {"a|b", "c", ""}, {"a|b|", "ab", ""},
		{"a*|aa", "aa", "(a0 (r b61 b61))"}, {"aa|a*", "aa", "(a0 (s b61 b61))"}, {"(a|b)|c", "c", "(a1 b63)"}, {"(a|b)|c", "b", "(a0 (g1 (a1 b62)))"}, {"x(|)", "x", "(s b78 (g1 (a0 e)))"},
		// The first of the ways, though a later one is longer in some other stretch.
		{"(a|ab)b*", "abb", "(s (g1 (a1 (s b61 b62))) (r b62))"}, {"(ab|a)b*", "abb", "(s (g1 (a0 (s b61 b62))) (r b62))"},
		{strings.Repeat("|", 59) + "a", "a", "(a59 b61)"}, {strings.Repeat("|", 58) + "aa", "aa", "(a58 (s b61 b61))"}, {strings.Repeat("b|", 10) + "a|a", "a", "(a10 b61)"}, {strings.Repeat("|", 60), "", "(a0 e)"},
	})
}

func TestMatchOfPiecesThatCouldShareInSeveralWays(t *testing.T) {
	checkMatch(t, []matchCase{
		{"(a*)(a*)", "aa", "(s (g1 (r b61 b61)) (g2 (r)))"}, {"a*a*a", "aa", "(s (r b61) (r) b61)"}, {"a?a?a", "aa", "(s (r b61) (r) b61)"}, {"a*ab?", "aab", "(s (r b61) b61 (r b62))"}, {"(|a)(a|aa)", "aa", "(s (g1 (a1 b61)) (g2 (a0 b61)))"}, {"(|a)(|aa)(a*)", "aaa", "(s (g1 (a1 b61)) (g2 (a1 (s b61 b61))) (g3 (r)))"},
		{".*b.*", "abab", "(s (r b61 b62 b61) b62 (r))"}, {"a{0,2}a{1,2}a{2}", "aaaa", "(s (r b61) (r b61) (r b61 b61))"}, {"(a|ab)(b|)(b|)", "abb", "(s (g1 (a1 (s b61 b62))) (g2 (a0 b62)) (g3 (a1 e)))"}, {"a*b", "a", ""}, {"a*a+", "", ""},
	})
}

func TestMatchOfRepeats(t *testing.T) {
	checkMatch(t, []matchCase{
		{"a*", "", "(r)"}, {"a*", "aa", "(r b61 b61)"}, {"a*", "ab", ""}, {"a+", "", ""}, {"a+", "a", "(r b61)"}, {"a?", "", "(r)"}, {"a?", "a", "(r b61)"}, {"a?", "aa", ""},
		{"a{0}", "", "(r)"}, {"a{0}", "a", ""}, {"a{1}", "a", "(r b61)"}, {"a{1}", "", ""}, {"a{5}", "aaaaa", "(r b61 b61 b61 b61 b61)"}, {"a{5}", "aaaa", ""}, {"a{5}", "aaaaaa", ""}, {"a{5,}", "aaaaaa", "(r b61 b61 b61 b61 b61 b61)"}, {"a{2,}", "a", ""}, {"a{2,3}", "a", ""}, {"a{2,3}", "aa", "(r b61 b61)"}, {"a{2,3}", "aaa", "(r b61 b61 b61)"}, {"a{2,3}", "aaaa", ""},
		{"(a|aa){2}", "aaa", "(r (g1 (a1 (s b61 b61))) (g1 (a0 b61)))"}, {"(a|aa){2,3}", "aaa", "(r (g1 (a1 (s b61 b61))) (g1 (a0 b61)))"}, {"(a|aa){3}", "aaaa", "(r (g1 (a1 (s b61 b61))) (g1 (a0 b61)) (g1 (a0 b61)))"}, {"(a|ab|bc)*", "abc", "(r (g1 (a0 b61)) (g1 (a2 (s b62 b63))))"},
		{"(aa|aaa)*", "aaaa", "(r (g1 (a0 (s b61 b61))) (g1 (a0 (s b61 b61))))"}, {"(aa|aaa)*", "aaaaa", "(r (g1 (a1 (s b61 b61 b61))) (g1 (a0 (s b61 b61))))"},
	})
}

func TestMatchOfRepeatsOfWhatCanMatchNothing(t *testing.T) {
	checkMatch(t, []matchCase{
		{"()*", "", "(r)"}, {"()?", "", "(r)"}, {"()+", "", "(r (g1 e))"}, {"(){3}", "", "(r (g1 e) (g1 e) (g1 e))"}, {"(){2,}", "", "(r (g1 e) (g1 e))"}, {"(){0,5}", "", "(r)"}, {"()+", "a", ""}, {"(|a)*", "", "(r)"}, {"(|a)*", "aa", "(r (g1 (a1 b61)) (g1 (a1 b61)))"}, {"(|a){2,}", "aaa", "(r (g1 (a1 b61)) (g1 (a1 b61)) (g1 (a1 b61)))"}, {"(|a){3}", "a", "(r (g1 (a1 b61)) (g1 (a0 e)) (g1 (a0 e)))"}, {"(a?){2}", "", "(r (g1 (r)) (g1 (r)))"}, {"(a*){2,3}", "aa", "(r (g1 (r b61 b61)) (g1 (r)))"},
		{"((a?){2})*", "aaa", "(r (g1 (r (g2 (r b61)) (g2 (r b61)))) (g1 (r (g2 (r b61)) (g2 (r)))))"}, {"((a*)+)+", "", "(r (g1 (r (g2 (r)))))"}, {"((a*)*)*", "a", "(r (g1 (r (g2 (r b61)))))"}, {"((){2}){2}", "", "(r (g1 (r (g2 e) (g2 e))) (g1 (r (g2 e) (g2 e))))"}, {"(a?){5}", "aaaaaa", ""},
	})
}

func TestMatchOfLongTexts(t *testing.T) {
	hundred := strings.Repeat("a", 100)
	checkMatch(t, []matchCase{
		{"a*", hundred, "(r" + strings.Repeat(" b61", 100) + ")"}, {"a*", hundred[1:] + "b", ""}, {".*b", hundred[1:] + "b", "(s (r" + strings.Repeat(" b61", 99) + ") b62)"}, {"b.*", "b" + hundred[1:], "(s b62 (r" + strings.Repeat(" b61", 99) + "))"},
		{".{5}.*", hundred[:64], "(s (r" + strings.Repeat(" b61", 5) + ") (r" + strings.Repeat(" b61", 59) + "))"}, {"(a|b|ab)*c", hundred, ""}, {"((a*)*)*b", hundred, ""}, {"(a?){5}(a|aa)*(a|aaa)*b", hundred, ""},
	})
	for _, c := range []struct {
		pattern, text string
		want          api.Errno
	}{
		{"a*", hundred + "a", api.ErrLong}, {"b", hundred + "a", api.ErrLong}, {"", strings.Repeat("\x00", 5000000), api.ErrLong},
		{strings.Repeat("a", 60), hundred + "a", api.ErrLong}, {strings.Repeat("a", 61), hundred[:61], api.ErrLong}, {strings.Repeat("a", 61), "", api.ErrLong}, {strings.Repeat(")", 61), hundred + "a", api.ErrLong},
		{")", hundred + "a", api.ErrPattern}, {"(", "", api.ErrPattern}, {"a{6}", "aaaaaa", api.ErrPattern}, {strings.Repeat("a", 59) + "(", hundred + "a", api.ErrPattern},
	} {
		if got, is, errno := Match(c.pattern, c.text); got != "" || is || errno != c.want {
			t.Errorf("P5: Match(%q, %d bytes) = %q, %v, %d, want \"\", false, %d", c.pattern, len(c.text), got, is, errno, c.want)
		}
	}
}

func TestMatchOfTheLongestTrees(t *testing.T) {
	for _, c := range []struct {
		pattern string
		length  int
	}{
		{"((((((b*b*){3}){2}){3}){5}a*){5}){2}b*", 19999}, {"((c|((((c|a?a*){5}){2}){5}){4}a?){4})", 20000}, {"(((((c|a*){3}){5}){5}){5}a*b*){3}", 20001}, {"c|(((c|(((c|a?){5})b*b*){5}){2}){4}){5}b*", 20001},
	} {
		want := shapeOf(c.pattern).meant("")
		if len(want) != c.length {
			t.Errorf("the tree of %q and nothing has %d bytes, not %d", c.pattern, len(want), c.length)
		}
		got, is, errno := Match(c.pattern, "")
		switch {
		case c.length <= api.MaxTree && (got != want || !is || errno != api.OK):
			t.Errorf("P5: Match(%q, \"\") = %d bytes, %v, %d, want a tree of %d bytes", c.pattern, len(got), is, errno, c.length)
		case c.length > api.MaxTree && (got != "" || is || errno != api.ErrLong):
			t.Errorf("P5: Match(%q, \"\") = %d bytes, %v, %d, want ErrLong", c.pattern, len(got), is, errno)
		}
	}
	for _, pattern := range []string{"((((((a?){5}){5}){5}){5}){5}){5}", "((((((a*a*a*a*a*a*a*a*a*a*a*a*a*a*){5}){5}){5}){5}){5}){5}"} {
		for _, text := range []string{"", "a", strings.Repeat("a", 100)} {
			if got, is, errno := Match(pattern, text); got != "" || is || errno != api.ErrLong {
				t.Errorf("P5: Match(%q, %q) = %d bytes, %v, %d, want ErrLong", pattern, text, len(got), is, errno)
			}
		}
		// What does not match has no tree that could be too long.
		checkMatch(t, []matchCase{{pattern, "b", ""}})
	}
}

// allTexts tells all texts of these bytes, up to a length.
func allTexts(bytes string, length int) []string {
	all := []string{""}
	for i := 0; i < len(all); i++ {
		if len(all[i]) == length {
			break
		}
		for j := range len(bytes) {
			all = append(all, all[i]+bytes[j:j+1])
		}
	}
	return all
}

func checkByShape(t *testing.T, pattern string, texts []string) {
	t.Helper()
	whole := shapeOf(pattern)
	expression := regexp.MustCompile("^(?:" + whole.expression() + ")$")
	for _, text := range texts {
		want := ""
		if whole.can(text) {
			want = whole.meant(text)
		}
		if expression.MatchString(text) != (want != "") {
			t.Fatalf("the test itself is wrong: of %q and %q it says %q", pattern, text, want)
		}
		checkMatch(t, []matchCase{{pattern, text, want}})
	}
}

func TestMatchByTheDocumentsWordsOfAllShortPatterns(t *testing.T) {
	texts := allTexts("ab", 3)
	for _, pattern := range allTexts("ab|()*+?", 5) {
		if isPattern(pattern) {
			checkByShape(t, pattern, texts)
		}
	}
}

// matchPattern makes a pattern that many texts of a few letters match.
func matchPattern(from *rand.Rand, depth int) string {
	text := ""
	for i := range 1 + from.IntN(3) {
		if i > 0 {
			text += "|"
		}
		for range from.IntN(4) {
			if depth > 0 && from.IntN(2) == 0 {
				text += "(" + matchPattern(from, depth-1) + ")"
			} else {
				text += []string{"a", "b", "c", ".", "[ab]", "ab", "a"}[from.IntN(7)]
			}
			text += []string{"", "", "", "*", "+", "?", "{0}", "{2}", "{1,}", "{2,}", "{0,2}", "{1,2}", "{2,3}", "{3}"}[from.IntN(14)]
		}
	}
	return text
}

func TestMatchByTheDocumentsWordsOfPatternsAtRandom(t *testing.T) {
	texts := allTexts("ab", 4)
	matched, looked := 0, 0
	for seed := range uint64(20000) {
		from := rand.New(rand.NewPCG(seed, 4))
		pattern := matchPattern(from, 2)
		if len(pattern) > 36 || !isPattern(pattern) {
			continue
		}
		looked++
		sample := []string{"", "a", "ab", "aab", "abab", "aaaaa", "abcab"}
		for range 5 {
			sample = append(sample, texts[from.IntN(len(texts))])
		}
		checkByShape(t, pattern, sample)
		for _, text := range sample {
			if _, is, _ := Match(pattern, text); is {
				matched++
			}
		}
	}
	if looked < 5000 || matched < 10000 {
		t.Errorf("only %d patterns were looked at, and %d texts matched", looked, matched)
	}
}
