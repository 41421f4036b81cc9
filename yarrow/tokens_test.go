package yarrow

import (
	"fmt"
	"math/rand/v2"
	"slices"
	"strings"
	"testing"

	"yarrow/api"
)

// skipped is a rule with Skip.
func skipped(name, pattern string) api.Rule {
	return api.Rule{Name: name, Pattern: pattern, Skip: true}
}

func kept(name, pattern string) api.Rule { return api.Rule{Name: name, Pattern: pattern} }

// wordRules are those of the document's example, and a sign beside them.
func wordRules() []api.Rule {
	return []api.Rule{kept("kw", "if|else"), kept("id", "[[:lower:]]+"), skipped("ws", "[[:space:]]+"), kept("op", "=|==|\\+")}
}

type tokensCase struct {
	rules []api.Rule
	text  string
	want  string // as toldTokens writes them
	end   int
}

// toldTokens writes each token as its rule, stretch, line and column.
func toldTokens(list []api.Token) string {
	var all []string
	for _, token := range list {
		all = append(all, fmt.Sprintf("%d:%d-%d@%d.%d", token.Rule, token.From, token.To, token.Line, token.Column))
	}
	return strings.Join(all, " ")
}

func checkTokens(t *testing.T, cases []tokensCase) {
	t.Helper()
	for _, c := range cases {
		got, end, errno := Tokens(c.rules, c.text)
		if toldTokens(got) != c.want || end != c.end || errno != api.OK {
			t.Errorf("P8: Tokens(%v, %q) = %s, %d, %d, want %s, %d, OK", c.rules, c.text, toldTokens(got), end, errno, c.want, c.end)
		}
	}
}

func TestTokensOfTheDocumentsExample(t *testing.T) {
	rules := []api.Rule{kept("kw", "if|else"), kept("id", "[[:lower:]]+"), skipped("ws", " +")}
	checkTokens(t, []tokensCase{{rules, "if iffy", "0:0-2@1.1 1:3-7@1.4", 7}})
}

func TestTokensEndWhereNoRuleMatches(t *testing.T) {
	a := []api.Rule{kept("a", "a")}
	checkTokens(t, []tokensCase{
		{a, "", "", 0}, {a, "b", "", 0}, {a, "a", "0:0-1@1.1", 1}, {a, "aab", "0:0-1@1.1 0:1-2@1.2", 2}, {a, "aba", "0:0-1@1.1", 1}, {a, "ba", "", 0},
		{wordRules(), "?", "", 0}, {wordRules(), "  ?", "", 2}, {wordRules(), "  ", "", 2}, {wordRules(), "a?b", "1:0-1@1.1", 1}, {wordRules(), "a ?", "1:0-1@1.1", 2},
		// What begins as a rule's text, but does not end as one.
		{[]api.Rule{kept("abc", "abc"), kept("a", "a")}, "abab", "1:0-1@1.1", 1}, {[]api.Rule{kept("abc", "abc")}, "abcab", "0:0-3@1.1", 3},
		{[]api.Rule{kept("any", ".*")}, strings.Repeat("\n", 100), "0:0-100@1.1", 100}, {[]api.Rule{kept("no", `[^\x00-\xff]`)}, "a", "", 0},
	})
}

// An empty stretch is no token, nor does it end the text where another is longer.
func TestTokensAreNotEmpty(t *testing.T) {
	checkTokens(t, []tokensCase{
		{[]api.Rule{kept("a", "a*")}, "aab", "0:0-2@1.1", 2}, {[]api.Rule{kept("a", "a*")}, "b", "", 0}, {[]api.Rule{kept("e", "")}, "b", "", 0}, {[]api.Rule{kept("e", "")}, "", "", 0}, {[]api.Rule{skipped("e", "()")}, "b", "", 0}, {[]api.Rule{kept("a", "a*"), kept("b", "b?")}, "bab", "1:0-1@1.1 0:1-2@1.2 1:2-3@1.3", 3},
	})
}

func TestTheLongestTokenAndOfItsRulesTheFirst(t *testing.T) {
	checkTokens(t, []tokensCase{
		{wordRules(), "if", "0:0-2@1.1", 2}, {wordRules(), "ifelse", "1:0-6@1.1", 6}, {wordRules(), "else if", "0:0-4@1.1 0:5-7@1.6", 7}, {wordRules(), "i", "1:0-1@1.1", 1}, {wordRules(), "a===", "1:0-1@1.1 3:1-3@1.2 3:3-4@1.4", 4},
		{[]api.Rule{kept("a", "a"), kept("b", "a|b")}, "ab", "0:0-1@1.1 1:1-2@1.2", 2}, {[]api.Rule{kept("b", "a|b"), kept("a", "a")}, "ab", "0:0-1@1.1 0:1-2@1.2", 2},
		{[]api.Rule{kept("a", "a"), kept("b", "aa"), kept("c", "aaa?")}, "aaaaaa", "2:0-3@1.1 2:3-6@1.4", 6}, {[]api.Rule{kept("a", "a"), kept("b", "aa"), kept("c", "aaa?")}, "aaaaa", "2:0-3@1.1 1:3-5@1.4", 5},
		// The longest one is taken, though less would leave more to the others.
		{[]api.Rule{kept("a", "a|ab"), kept("b", "bc")}, "abc", "0:0-2@1.1", 2}, {[]api.Rule{kept("x", "x"), kept("same", "a|b"), kept("asame", "b|a")}, "bxa", "1:0-1@1.1 0:1-2@1.2 1:2-3@1.3", 3},
	})
}

func TestSkippedTokensAreNotTold(t *testing.T) {
	checkTokens(t, []tokensCase{
		{[]api.Rule{skipped("s", "a")}, "aaa", "", 3}, {[]api.Rule{skipped("s", "a"), kept("t", "aa")}, "aaa", "1:0-2@1.1", 3}, {[]api.Rule{skipped("s", "aa?"), kept("t", "aa")}, "aaa", "", 3}, {[]api.Rule{kept("t", "aa"), skipped("s", "aa?")}, "aaa", "0:0-2@1.1", 3}, {[]api.Rule{kept("t", "a"), skipped("s", "ab")}, "aba", "0:2-3@1.3", 3},
	})
}

// For all but Search they are not there.
func TestTokensDoNotLookAtTheMarks(t *testing.T) {
	checkTokens(t, []tokensCase{{[]api.Rule{kept("a", "^a$"), kept("b", "^b"), kept("c", "c$")}, "abcab", "0:0-1@1.1 1:1-2@1.2 2:2-3@1.3 0:3-4@1.4 1:4-5@1.5", 5}})
}

func TestLinesAndColumns(t *testing.T) {
	lines := []api.Rule{kept("line", "a\n"), kept("two", "\nb\n"), kept("c", "c"), skipped("nl", "\n")}
	checkTokens(t, []tokensCase{
		{wordRules(), "a\n\nif = b", "1:0-1@1.1 0:3-5@3.1 3:6-7@3.4 1:8-9@3.6", 9}, {wordRules(), "a\n b==c", "1:0-1@1.1 1:3-4@2.2 3:4-6@2.3 1:6-7@2.5", 7}, {wordRules(), "\n\n\n", "", 3},
		// A newline in a token counts for the tokens behind it, not for itself.
		{lines, "a\na\nc", "0:0-2@1.1 0:2-4@2.1 2:4-5@3.1", 5}, {lines, "c\nb\nc", "2:0-1@1.1 1:1-4@1.2 2:4-5@3.1", 5}, {lines, "\nccc\n\n\nc", "2:1-2@2.1 2:2-3@2.2 2:3-4@2.3 2:7-8@5.1", 8}, {lines, "\n\nb\nc\n", "1:1-4@2.1 2:4-5@4.1", 6},
		// Other bytes that end a line elsewhere do not here.
		{[]api.Rule{kept("any", ".")}, "\r\x0b\n\xff\xc3\xa4\n", "0:0-1@1.1 0:1-2@1.2 0:2-3@1.3 0:3-4@2.1 0:4-5@2.2 0:5-6@2.3 0:6-7@2.4", 7},
	})
	want := ""
	for i := range 100 {
		want += fmt.Sprintf(" 0:%d-%d@%d.1", i, i+1, i+1)
	}
	checkTokens(t, []tokensCase{{[]api.Rule{kept("nl", "\n")}, strings.Repeat("\n", 100), want[1:], 100}})
}

// rulesOf makes so many good rules.
func rulesOf(number int) []api.Rule {
	var rules []api.Rule
	for i := range number {
		name := string([]byte{'a' + byte(i)})
		rules = append(rules, kept(name, name))
	}
	return rules
}

func checkRefused(t *testing.T, rules []api.Rule, text string, want api.Errno) {
	t.Helper()
	if got, end, errno := Tokens(rules, text); got != nil || end != 0 || errno != want {
		t.Errorf("P8: Tokens of %d rules %.300v and %d bytes = %v, %d, %d, want nil, 0, %d", len(rules), rules[:min(len(rules), 9)], len(text), got, end, errno, want)
	}
}

func TestTokensOfNoRulesAndOfManyRules(t *testing.T) {
	checkRefused(t, nil, "", api.ErrArg)
	checkRefused(t, []api.Rule{}, "a", api.ErrArg)
	checkRefused(t, rulesOf(9), "", api.ErrArg)
	checkRefused(t, rulesOf(9), strings.Repeat("a", 101), api.ErrArg)
	checkRefused(t, make([]api.Rule, 1000000), "", api.ErrArg)
	// Ahead of what is wrong with a rule.
	checkRefused(t, append(rulesOf(8), kept("a", "a")), "", api.ErrArg)
	checkRefused(t, append([]api.Rule{kept("z", ")")}, rulesOf(8)...), "", api.ErrArg)
	checkTokens(t, []tokensCase{{rulesOf(8), "hga", "7:0-1@1.1 6:1-2@1.2 0:2-3@1.3", 3}, {rulesOf(1), "ab", "0:0-1@1.1", 1}})
}

func TestNamesOfRules(t *testing.T) {
	for i := range 256 {
		b := string([]byte{byte(i)})
		for _, name := range []string{b, b + "a", "aaa" + b, "aaaa" + b + "aaa", "aaaaaaa" + b} {
			if 'a' <= i && i <= 'z' {
				checkTokens(t, []tokensCase{{[]api.Rule{kept(name, "a")}, "ab", "0:0-1@1.1", 1}})
			} else {
				checkRefused(t, []api.Rule{kept(name, "a")}, "ab", api.ErrArg)
			}
		}
	}
	for _, name := range []string{"", "abcdefghi", "ä", "a b", strings.Repeat("a", 1000000), "éé"} {
		checkRefused(t, []api.Rule{kept(name, "a")}, "ab", api.ErrArg)
		checkRefused(t, []api.Rule{kept("a", "a"), skipped(name, "b")}, "ab", api.ErrArg)
	}
	checkTokens(t, []tokensCase{{[]api.Rule{kept("abcdefgh", "a"), kept("abcdefg", "b"), kept("h", "c")}, "b", "1:0-1@1.1", 1}})
}

func TestTokensOfWhatIsRefused(t *testing.T) {
	long := strings.Repeat("a", 61)
	text := strings.Repeat("a", 101)
	for _, c := range []struct {
		rules []api.Rule
		want  api.Errno
	}{
		{[]api.Rule{kept("a", "a"), kept("a", "b")}, api.ErrTwice}, {[]api.Rule{kept("a", "a"), kept("b", "b"), skipped("a", "a")}, api.ErrTwice},
		// Of one rule: the name, then that it is there already, then its pattern.
		{[]api.Rule{kept("", ")")}, api.ErrArg}, {[]api.Rule{kept("A", long)}, api.ErrArg}, {[]api.Rule{kept("a", "a"), kept("a", ")")}, api.ErrTwice}, {[]api.Rule{kept("a", "a"), kept("a", long)}, api.ErrTwice}, {[]api.Rule{kept("a", long)}, api.ErrLong}, {[]api.Rule{kept("a", ")")}, api.ErrPattern}, {[]api.Rule{kept("a", long+")")}, api.ErrLong},
		// Of several rules: what is wrong with the first.
		{[]api.Rule{kept("a", ")"), kept("a", "a")}, api.ErrPattern}, {[]api.Rule{kept("a", long), kept("", "a")}, api.ErrLong}, {[]api.Rule{kept("a", "a"), kept("b", "("), kept("", "")}, api.ErrPattern}, {[]api.Rule{kept("a", "a"), kept("", "("), kept("b", "(")}, api.ErrArg}, {[]api.Rule{kept("a", "a"), kept("a", "a"), kept("", "a")}, api.ErrTwice}, {[]api.Rule{kept("a", "a"), kept("b", long), kept("a", ")")}, api.ErrLong},
	} {
		checkRefused(t, c.rules, "a", c.want)
		checkRefused(t, c.rules, text, c.want)
	}
	checkRefused(t, []api.Rule{kept("a", "a")}, text, api.ErrLong)
	checkRefused(t, []api.Rule{kept("a", "b"), skipped("b", "a")}, text, api.ErrLong)
	checkRefused(t, rulesOf(8), strings.Repeat("?", 5000000), api.ErrLong)
	if got, end, errno := Tokens(rulesOf(8), text[1:]); len(got) != 100 || end != 100 || errno != api.OK {
		t.Errorf("P8: Tokens of 8 rules and 100 bytes = %v, %d, %d", got, end, errno)
	}
}

// refusal goes through what the document says is wrong, in its order.
func refusal(rules []api.Rule, text string) api.Errno {
	if len(rules) < 1 || len(rules) > 8 {
		return api.ErrArg
	}
	for i, rule := range rules {
		twice := false
		for j := range i {
			twice = twice || rules[j].Name == rule.Name
		}
		switch {
		case len(rule.Name) < 1 || len(rule.Name) > 8 || strings.Trim(rule.Name, "abcdefghijklmnopqrstuvwxyz") != "":
			return api.ErrArg
		case twice:
			return api.ErrTwice
		case len(rule.Pattern) > 60:
			return api.ErrLong
		case !isPattern(rule.Pattern):
			return api.ErrPattern
		}
	}
	if len(text) > 100 {
		return api.ErrLong
	}
	return api.OK
}

func TestWhatIsRefusedByTheDocumentsWords(t *testing.T) {
	names := []string{"a", "b", "c", "dddddddd", "e", "f", "g", "h", "i", "", "eeeeeeeee", "A"}
	patterns := []string{"a", "b", "(a)", "c*", "d", "", ")", "[", strings.Repeat("a", 60), strings.Repeat("a", 61)}
	var seen [6]int
	for seed := range uint64(20000) {
		from := rand.New(rand.NewPCG(seed, 8))
		var rules []api.Rule
		for range from.IntN(10) {
			// Mostly good ones, so that a later one is the first that is not.
			rules = append(rules, api.Rule{Name: names[from.IntN(3+from.IntN(len(names)-2))], Pattern: patterns[from.IntN(5+from.IntN(len(patterns)-4))], Skip: from.IntN(2) == 0})
		}
		text := strings.Repeat("a", 100+from.IntN(2))
		want := refusal(rules, text)
		seen[want]++
		if got, end, errno := Tokens(rules, text); errno != want || errno != api.OK && (got != nil || end != 0) {
			t.Errorf("P8: Tokens(%v, %d bytes) = %v, %d, %d, want %d", rules, len(text), got, end, errno, want)
		}
	}
	for _, errno := range []api.Errno{api.OK, api.ErrLong, api.ErrPattern, api.ErrArg, api.ErrTwice} {
		if seen[errno] < 500 {
			t.Errorf("the error %d was seen %d times only", errno, seen[errno])
		}
	}
}

// tokensByShape takes a text apart by the document's words, all tokens, skipped ones too.
func tokensByShape(rules []api.Rule, text string) (all []api.Token, end int) {
	var shapes []waysShape
	for _, rule := range rules {
		shapes = append(shapes, shapeOf(rule.Pattern))
	}
	for {
		best := api.Token{From: end, To: end}
		for i, one := range shapes {
			for to := best.To + 1; to <= len(text); to++ {
				if one.can(text[end:to]) {
					best.Rule, best.To = i, to
				}
			}
		}
		if best.To == end {
			return all, end
		}
		lines := strings.Split(text[:end], "\n")
		best.Line, best.Column = len(lines), len(lines[len(lines)-1])+1
		all = append(all, best)
		end = best.To
	}
}

func TestTokensByTheDocumentsWords(t *testing.T) {
	looked, told, ended := 0, 0, 0
	for seed := range uint64(10000) {
		from := rand.New(rand.NewPCG(seed, 9))
		var rules []api.Rule
		for i := range 1 + from.IntN(4) {
			pattern := strings.ReplaceAll(matchPattern(from, 1), "c", "\n")
			if from.IntN(2) == 0 {
				pattern = []string{"a", "b", "ab", "\n", "\n*", "[ab]", "a+b?", "b{2}", "a|aa", ".."}[from.IntN(10)]
			}
			if len(pattern) <= 30 && isPattern(pattern) {
				rules = append(rules, api.Rule{Name: string([]byte{'z' - byte(i)}), Pattern: marked(pattern)[from.IntN(4)], Skip: from.IntN(4) == 0})
			}
		}
		if len(rules) == 0 {
			continue
		}
		text := ""
		for range from.IntN(12) {
			text += string("aaabb\n"[from.IntN(6)])
		}
		all, end := tokensByShape(rules, text)
		want := slices.DeleteFunc(slices.Clone(all), func(token api.Token) bool { return rules[token.Rule].Skip })
		checkTokens(t, []tokensCase{{rules, text, toldTokens(want), end}})
		looked, told = looked+1, told+len(want)
		if end < len(text) {
			ended++
		}
	}
	if looked < 3000 || told < 8000 || ended < 1000 || ended > looked-1000 {
		t.Errorf("only %d lists of rules were looked at, %d tokens told, %d texts not gone through", looked, told, ended)
	}
}

// The texts of all tokens are the text up to where it ends.
func TestTheTextsOfAllTokensAreTheText(t *testing.T) {
	for _, text := range []string{"", "if a == b\n\telse c", "a=?b", strings.Repeat("ab =\n", 20)} {
		rules := wordRules()
		rules[2].Skip = false
		list, end, errno := Tokens(rules, text)
		joined := ""
		for _, token := range list {
			if token.From != len(joined) {
				t.Errorf("P11: Tokens of %q leave a gap: %v", text, list)
			}
			joined += text[token.From:token.To]
			if _, is, _ := Match(rules[token.Rule].Pattern, text[token.From:token.To]); !is {
				t.Errorf("P8: %v of %q does not match its rule", token, text)
			}
		}
		if joined != text[:end] || errno != api.OK {
			t.Errorf("P11: Tokens of %q = %v, %d, %d", text, list, end, errno)
		}
		// With Skip the same ones are told, but for those.
		rest := slices.DeleteFunc(list, func(token api.Token) bool { return token.Rule == 2 })
		checkTokens(t, []tokensCase{{wordRules(), text, toldTokens(rest), end}})
	}
}

func TestTokensDoNotWriteIntoTheRules(t *testing.T) {
	rules := append(make([]api.Rule, 0, 20), wordRules()...)
	spare := rules[:cap(rules)]
	for i := len(rules); i < len(spare); i++ {
		spare[i] = kept("spare", "room")
	}
	before := fmt.Sprint(spare)
	for _, text := range []string{"if a == b", "?", strings.Repeat("a", 101)} {
		Tokens(rules, text)
		Tokens(rules[:3], text)
		Tokens(spare, text)
	}
	if fmt.Sprint(spare) != before {
		t.Errorf("P2: Tokens wrote into the rules: %v", spare)
	}
}

func TestTheListThatTokensTellIsTheCallers(t *testing.T) {
	rules := wordRules()
	first, _, _ := Tokens(rules, "if a == b")
	second, _, _ := Tokens(rules, "if a == b")
	want := fmt.Sprint(second)
	first = first[:cap(first)]
	for i := range first {
		first[i] = api.Token{Rule: 77, From: 77, To: 77, Line: 77, Column: 77}
	}
	rules[1].Pattern = "[ab]"
	third, _, _ := Tokens(wordRules(), "if a == b")
	if fmt.Sprint(second) != want || fmt.Sprint(third) != want {
		t.Errorf("P2: writing into lists changes others: %v, %v, want %s", second, third, want)
	}
}
