package yarrow

import (
	"fmt"
	"math/rand/v2"
	"strings"
	"testing"

	"yarrow/api"
)

// patternAtRandom makes a pattern of a few letters, which many texts match, or one of sets of any bytes.
func patternAtRandom(from *rand.Rand) string {
	if from.IntN(2) == 0 {
		return marked(matchPattern(from, 2))[from.IntN(4)]
	}
	w := &writer{Rand: from}
	written, _ := w.ways(0)
	return written
}

// oddPatterns are written in ways that are not plain.
func oddPatterns() []string {
	return []string{"", "^", "$", "^$", "|", "^|$", "()", `[b-da]x|\.{00,1}`, "[[:digit:]]{1,}", "[^[:alnum:]]*$", `^[\x61-c]{2,2}`, "(a|ab)(c|bcd)(d*)", "[aab-b]{0,1}c{0,}", `[^\x00-\xff]?a`, `[\x00-\xff]{2,}`, `\x61\x62`, "((a)|(b){0})*c?", "(a*){3}", "a{1}|b{01}", "]|}", "^([ab]|c)+$", "((((((a?){5}){5}){5}){5}){5}){5}"}
}

// textsFor has short texts of the letters that patterns have, some of any bytes, and a long one.
func textsFor(from *rand.Rand) []string {
	texts := []string{"", "a", "ab", "abcd", "aabbcc", ".", "bx", "12", strings.Repeat("ab", 50)}
	for range 8 {
		text := ""
		for range from.IntN(8) {
			text += string("aaabbcx."[from.IntN(8)])
		}
		texts = append(texts, text, string([]byte{byte(from.IntN(256))}), string([]byte{byte(from.IntN(256)), byte(from.IntN(256))}))
	}
	return texts
}

func checkTreeOfMatch(t *testing.T, pattern, text string) (is bool) {
	t.Helper()
	tree, is, errno := Match(pattern, text)
	if !is || errno != api.OK {
		return false
	}
	if fits, errno := Fits(pattern, tree); !fits || errno != api.OK {
		t.Errorf("P11: Match(%q, %q) = %q, which does not fit: %v, %d", pattern, text, tree, fits, errno)
	}
	if flat, place, errno := Flat(tree); flat != text || place != 0 || errno != api.OK {
		t.Errorf("P11: Match(%q, %q) = %q, whose flat text is %q, %d, %d", pattern, text, tree, flat, place, errno)
	}
	return true
}

func TestTheTreeOfMatchFitsAndHasTheText(t *testing.T) {
	trees := 0
	for seed := range uint64(6000) {
		from := rand.New(rand.NewPCG(seed, 11))
		pattern := patternAtRandom(from)
		if seed < uint64(len(oddPatterns())) {
			pattern = oddPatterns()[seed]
		}
		for _, text := range textsFor(from) {
			if checkTreeOfMatch(t, pattern, text) {
				trees++
			}
		}
	}
	if trees < 10000 {
		t.Errorf("only %d trees were looked at", trees)
	}
	// The greatest places of ways, the deepest groups, and the longest tree.
	for _, c := range [][2]string{{strings.Repeat("|", 59) + "a", "a"}, {strings.Repeat("|", 60), ""}, {"((((((|a)*|)*|)*|)*|)*|)*", "aa"}, {"((c|((((c|a?a*){5}){2}){5}){4}a?){4})", ""}} {
		if !checkTreeOfMatch(t, c[0], c[1]) {
			t.Errorf("P11: Match(%q, %q) has no tree", c[0], c[1])
		}
	}
}

// said is what the calls say of a pattern and a text.
func said(pattern, text string) string {
	tree, is, errno := Match(pattern, text)
	all := fmt.Sprintln(tree, is, errno)
	for _, from := range []int{0, len(text) / 2, len(text)} {
		all += fmt.Sprintln(Search(pattern, text, from))
	}
	all += fmt.Sprintln(Tokens([]api.Rule{{Name: "a", Pattern: pattern}, {Name: "b", Pattern: "."}}, text))
	return all + fmt.Sprintln(Extract([]string{"-ion", "--", pattern}, text))
}

func TestPlainOfAPlainIsTheSameAndSaysTheSame(t *testing.T) {
	looked, changed := 0, 0
	for seed := range uint64(3000) {
		from := rand.New(rand.NewPCG(seed, 12))
		pattern := patternAtRandom(from)
		if seed < uint64(len(oddPatterns())) {
			pattern = oddPatterns()[seed]
		}
		plain, _, errno := Plain(pattern)
		if errno != api.OK || len(plain) > api.MaxPattern {
			continue
		}
		looked++
		if plain != pattern {
			changed++
		}
		if again, place, errno := Plain(plain); again != plain || place != 0 || errno != api.OK {
			t.Errorf("P11: Plain(%q) = %q, and Plain of that = %q, %d, %d", pattern, plain, again, place, errno)
		}
		for _, text := range textsFor(from) {
			if before, behind := said(pattern, text), said(plain, text); before != behind {
				t.Errorf("P11: of %q the pattern %q says\n%sbut its plain %q says\n%s", text, pattern, before, plain, behind)
			}
		}
	}
	if looked < 1000 || changed < 500 {
		t.Errorf("only %d patterns were looked at, and %d were not plain", looked, changed)
	}
}

// A Plain that is too long for a pattern is none that can be asked of.
func TestPlainOfAPlainThatIsTooLong(t *testing.T) {
	plain, _, _ := Plain(strings.Repeat(`\.`, 15))
	if again, _, errno := Plain(plain); len(plain) != api.MaxPattern || again != plain || errno != api.OK {
		t.Errorf("P11: Plain(%q) = %q, %d", plain, again, errno)
	}
	plain, _, _ = Plain(strings.Repeat(`\.`, 15) + "a")
	if again, place, errno := Plain(plain); len(plain) != api.MaxPattern+1 || again != "" || place != 0 || errno != api.ErrLong {
		t.Errorf("P11: Plain(%q) = %q, %d, %d", plain, again, place, errno)
	}
}

// rulesAtRandom has rules of a few letters, some with Skip.
func rulesAtRandom(from *rand.Rand) []api.Rule {
	var rules []api.Rule
	for i := range 1 + from.IntN(api.MaxRules) {
		pattern := patternAtRandom(from)
		if from.IntN(2) == 0 || len(pattern) > api.MaxPattern || !isPattern(pattern) {
			pattern = []string{"a", "b+", "[ab]", "\n", "a|aa", "..", "c*", "", "(ab)*c?"}[from.IntN(9)]
		}
		rules = append(rules, api.Rule{Name: string([]byte{'a' + byte(i)}), Pattern: pattern, Skip: from.IntN(3) == 0})
	}
	return rules
}

func TestTheTextsOfTokensThatAreSkippedToo(t *testing.T) {
	told, ended := 0, 0
	for seed := range uint64(4000) {
		from := rand.New(rand.NewPCG(seed, 13))
		rules := rulesAtRandom(from)
		text := ""
		for range from.IntN(101) {
			text += string("aaabbc\n"[from.IntN(7)])
		}
		some, end, errno := Tokens(rules, text)
		unskipped := append([]api.Rule(nil), rules...)
		for i := range unskipped {
			unskipped[i].Skip = false
		}
		all, allEnd, _ := Tokens(unskipped, text)
		joined := ""
		for _, token := range all {
			if !rules[token.Rule].Skip {
				if len(some) == 0 || some[0] != token {
					t.Fatalf("P11: Tokens(%v, %q) leave %v out", rules, text, token)
				}
				some = some[1:]
			}
			joined += text[token.From:token.To]
			told++
		}
		if joined != text[:end] || end != allEnd || len(some) > 0 || errno != api.OK {
			t.Errorf("P11: Tokens(%v, %q) have the texts %q and end at %d and %d, with %v left, %d", rules, text, joined, end, allEnd, some, errno)
		}
		if end < len(text) {
			ended++
		}
	}
	if told < 20000 || ended < 500 || ended > 3500 {
		t.Errorf("only %d tokens were told, and %d texts not gone through", told, ended)
	}
}
