package yarrow

import (
	"strings"
	"testing"
	"unsafe"

	"yarrow/api"
)

// oddTexts are texts that a call might stumble over.
func oddTexts() []string {
	texts := []string{"", "\x00", "\xff\xfe", "\n", "(g1 b61)", "-", "--", "-t", strings.Repeat("(", 61), strings.Repeat("a", 61), strings.Repeat("(", 1000000), strings.Repeat("[^a]*", 12)}
	whole := []string{`^((a|[^b-d[:alpha:]]+)\x41{0,2}){1,}|\.$`, "((((((a))))))", "()()()()()()()()()", "((((((a?){5}){5}){5}){5}){5}){5}", "(s (g1 (a59 (s b61 b62))) (r (r) e b64))"}
	for _, text := range whole {
		for i := range text {
			texts = append(texts, text[:i+1], text[i:])
		}
	}
	return texts
}

func TestNoCallPanics(t *testing.T) {
	numbers := []int{-1 << 63, -1, 0, 1, 60, 61, 100, 101, 1<<63 - 1}
	for i, text := range oddTexts() {
		other := oddTexts()[i*7%len(oddTexts())]
		Plain(text)
		Match(text, other)
		Flat(text)
		Fits(text, other)
		for _, from := range numbers {
			Search(text, other, from)
		}
		for _, rules := range [][]api.Rule{nil, {}, {{}}, {{Name: "a", Pattern: text}}, {{Name: "a", Pattern: text}, {Name: "a", Pattern: other, Skip: true}}, make([]api.Rule, 1000)} {
			Tokens(rules, other)
		}
		for _, args := range [][]string{nil, {}, {""}, {text}, {text, other}, {"-t", other, text}, {"-t", text, "((((((a*)*)*)*)*)*)()()()"}, {"-t", text, other}, {"-i", "-o", text}, {"-x", "-t", `<\0>`, text}, {"-vox", text}, {"-cinovx", text}, make([]string, 1000)} {
			Extract(args, other)
			Extract(args, strings.Repeat("a\n", 20)+text)
		}
	}
}

func TestPlainOfAnythingEndsAndTellsNoMoreThanItMay(t *testing.T) {
	check := func(text string) {
		got, place, errno := Plain(text)
		switch errno {
		case api.OK:
			if place != 0 || (got == "") != (text == "") {
				t.Errorf("P1: Plain(%q) = %q, %d, OK", text, got, place)
			}
		case api.ErrPattern:
			if got != "" || place < 0 || place > len(text) {
				t.Errorf("P1: Plain(%q) = %q, %d, ErrPattern", text, got, place)
			}
		case api.ErrLong:
			if got != "" || place != 0 || len(text) <= api.MaxPattern {
				t.Errorf("P1: Plain of %d bytes = %q, %d, ErrLong", len(text), got, place)
			}
		default:
			t.Errorf("P1: Plain(%q) answers the error %d", text, errno)
		}
	}
	for _, text := range oddTexts() {
		check(text)
	}
	for i := range 256 * 256 {
		pair := string([]byte{byte(i), byte(i >> 8)})
		check(pair)
		check("[" + pair)
		check("([a" + pair + "])")
		check("(a{" + pair + "})")
	}
}

// Of both errors, that of the length comes first.
func TestPlainOfALongWrongPattern(t *testing.T) {
	for _, text := range []string{strings.Repeat(")", 61), "a)" + strings.Repeat("a", 59), strings.Repeat("a", 60) + "["} {
		if got, place, errno := Plain(text); got != "" || place != 0 || errno != api.ErrLong {
			t.Errorf("P1: Plain(%q) = %q, %d, %d, want \"\", 0, ErrLong", text, got, place, errno)
		}
	}
}

// shown lays a text over memory that the test can see and write into, as no caller can: so it shows what is written into, and what is kept or shared.
func shown(text string) (memory []byte, over string) {
	memory = append([]byte(text), "spare room"...)
	return memory, unsafe.String(&memory[0], len(text))
}

// answer is all that a call of two texts tells.
type answer struct {
	text  string
	place int
	is    bool
	errno api.Errno
}

type call struct {
	name string
	ask  func(first, second string) answer
}

func callsOfTexts() []call {
	return []call{
		{"Plain", func(pattern, _ string) (a answer) { a.text, a.place, a.errno = Plain(pattern); return a }},
		{"Match", func(pattern, text string) (a answer) { a.text, a.is, a.errno = Match(pattern, text); return a }},
		{"Flat", func(tree, _ string) (a answer) { a.text, a.place, a.errno = Flat(tree); return a }},
		{"Fits", func(pattern, tree string) (a answer) { a.is, a.errno = Fits(pattern, tree); return a }},
		{"Search", func(pattern, text string) answer { return searchAnswer(pattern, text, 0) }},
		{"Search from 1", func(pattern, text string) answer { return searchAnswer(pattern, text, 1) }},
		{"Tokens", func(pattern, text string) answer {
			return tokensAnswer([]api.Rule{kept("rule", pattern), kept("any", "."), skipped("nl", "\n+")}, text)
		}},
		{"Tokens by name", func(name, text string) answer {
			return tokensAnswer([]api.Rule{kept("abc", "[ab]"), kept(name, "b+")}, text)
		}},
		{"Extract", func(pattern, input string) answer { return extractAnswer(input, "--", pattern) }},
		{"Extract of stretches", func(pattern, input string) answer { return extractAnswer(input, "-oi", "--", pattern) }},
		{"Extract by template", func(template, input string) answer { return extractAnswer(input, "-n", "-t", template, ".*") }},
		{"Extract by option", func(option, input string) answer { return extractAnswer(input, option, "a") }},
	}
}

func searchAnswer(pattern, text string, from int) answer {
	list, errno := Search(pattern, text, from)
	return answer{text: numbersOf(list), is: list != nil, errno: errno}
}

func tokensAnswer(rules []api.Rule, text string) answer {
	list, end, errno := Tokens(rules, text)
	return answer{text: toldTokens(list), place: end, errno: errno}
}

func TestNoCallWritesIntoOrKeepsWhatItIsGiven(t *testing.T) {
	firsts := []string{"a", "abc", "^abc$", "(a|b)*", "[a-c]x", "[[:digit:]]{2}", "a)", ".", strings.Repeat("a", 60), "(.*)(b)", "b61", "(s b61 b62)", "(r b61", "e"}
	seconds := []string{"a", "ab", "abc", "b61", "(r (g1 (a0 b61)))", "(s b61 b62 b63)", "x", strings.Repeat("a", 100), strings.Repeat("b", 101)}
	for _, c := range callsOfTexts() {
		for _, first := range firsts {
			for _, second := range seconds {
				firstMemory, firstOver := shown(first)
				secondMemory, secondOver := shown(second)
				got := c.ask(firstOver, secondOver)
				if string(firstMemory) != first+"spare room" || string(secondMemory) != second+"spare room" {
					t.Errorf("P2: %s(%q, %q) wrote into its arguments: %q, %q", c.name, first, second, firstMemory, secondMemory)
				}
				kept := got
				kept.text = strings.Clone(got.text)
				for _, memory := range [][]byte{firstMemory, secondMemory} {
					for i := range memory {
						memory[i] = '!'
					}
				}
				if got != kept {
					t.Errorf("P2: the answer of %s(%q, %q) shares memory with its arguments", c.name, first, second)
				}
				if again := c.ask(first, second); again != kept {
					t.Errorf("P2: %s(%q, %q) = %v, and later %v", c.name, first, second, kept, again)
				}
			}
		}
	}
}

func TestAnswersHangOnTheArgumentsAlone(t *testing.T) {
	texts := oddTexts()
	other := func(i int) string { return texts[i*7%len(texts)] }
	for _, c := range callsOfTexts() {
		var first []answer
		for i, text := range texts {
			first = append(first, c.ask(text, other(i)))
		}
		for i := len(texts) - 1; i >= 0; i-- {
			if again := c.ask(texts[i], other(i)); again != first[i] {
				t.Errorf("P2: %s(%q, %q) = %v, and later %v", c.name, texts[i], other(i), first[i], again)
			}
		}
	}
}

func TestNothingIsToldBesideAnError(t *testing.T) {
	texts := oddTexts()
	for _, c := range callsOfTexts() {
		for i, text := range texts {
			for _, second := range []string{"", "a", "e", "x", texts[i*7%len(texts)], strings.Repeat("a", 101), strings.Repeat("(", 20001)} {
				got := c.ask(text, second)
				placeTold := (c.name == "Plain" || c.name == "Flat") && (got.errno == api.ErrPattern || got.errno == api.ErrTree)
				// The end of the tokens, or the status.
				endTold := strings.HasPrefix(c.name, "Tokens") || strings.HasPrefix(c.name, "Extract")
				if got.errno != api.OK && (got.text != "" || got.is || got.place != 0 && !placeTold) || got.errno == api.OK && got.place != 0 && !endTold {
					t.Errorf("P1: %s(%.80q, %.80q) = %v", c.name, text, second, got)
				}
				if c.name == "Match" && got.is != (got.text != "") {
					t.Errorf("P5: Match(%.80q, %.80q) = %v", text, second, got)
				}
			}
		}
	}
}
