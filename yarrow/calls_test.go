package yarrow

import (
	"strings"
	"testing"
	"unsafe"

	"yarrow/api"
)

// oddTexts are texts that a call might stumble over.
func oddTexts() []string {
	texts := []string{"", "\x00", "\xff\xfe", "\n", "(g1 b61)", "-", "--", "-t", strings.Repeat("(", 61), strings.Repeat("a", 61), strings.Repeat("(", 1000000), strings.Repeat("[^a]*", 12)}
	whole := []string{`^((a|[^b-d[:alpha:]]+)\x41{0,2}){1,}|\.$`, "((((((a))))))", "()()()()()()()()()"}
	for _, text := range whole {
		for i := range text {
			texts = append(texts, text[:i+1], text[i:])
		}
	}
	return texts
}

func TestNoCallPanics(t *testing.T) {
	numbers := []int{-1 << 63, -1, 0, 1, 60, 61, 100, 101, 1<<63 - 1}
	for i, text := range oddTexts() {
		other := oddTexts()[i*7%len(oddTexts())]
		Plain(text)
		Match(text, other)
		Flat(text)
		Fits(text, other)
		for _, from := range numbers {
			Search(text, other, from)
		}
		for _, rules := range [][]api.Rule{nil, {}, {{}}, {{Name: "a", Pattern: text}}, {{Name: "a", Pattern: text}, {Name: "a", Pattern: other, Skip: true}}, make([]api.Rule, 1000)} {
			Tokens(rules, other)
		}
		for _, args := range [][]string{nil, {}, {""}, {text}, {text, other}, {"-t", other, text}, {"-cinovx", text}, make([]string, 1000)} {
			Extract(args, other)
		}
	}
}

func TestPlainOfAnythingEndsAndTellsNoMoreThanItMay(t *testing.T) {
	check := func(text string) {
		got, place, errno := Plain(text)
		switch errno {
		case api.OK:
			if place != 0 || (got == "") != (text == "") {
				t.Errorf("P1: Plain(%q) = %q, %d, OK", text, got, place)
			}
		case api.ErrPattern:
			if got != "" || place < 0 || place > len(text) {
				t.Errorf("P1: Plain(%q) = %q, %d, ErrPattern", text, got, place)
			}
		case api.ErrLong:
			if got != "" || place != 0 || len(text) <= api.MaxPattern {
				t.Errorf("P1: Plain of %d bytes = %q, %d, ErrLong", len(text), got, place)
			}
		default:
			t.Errorf("P1: Plain(%q) answers the error %d", text, errno)
		}
	}
	for _, text := range oddTexts() {
		check(text)
	}
	for i := range 256 * 256 {
		pair := string([]byte{byte(i), byte(i >> 8)})
		check(pair)
		check("[" + pair)
		check("([a" + pair + "])")
		check("(a{" + pair + "})")
	}
}

// Of both errors, that of the length comes first.
func TestPlainOfALongWrongPattern(t *testing.T) {
	for _, text := range []string{strings.Repeat(")", 61), "a)" + strings.Repeat("a", 59), strings.Repeat("a", 60) + "["} {
		if got, place, errno := Plain(text); got != "" || place != 0 || errno != api.ErrLong {
			t.Errorf("P1: Plain(%q) = %q, %d, %d, want \"\", 0, ErrLong", text, got, place, errno)
		}
	}
}

// The pattern is laid over memory that the test can see and write into, as no caller can: so it shows what is written into, and what is kept or shared.
func TestPlainNeitherWritesIntoNorKeepsThePattern(t *testing.T) {
	for _, text := range []string{"a", "abc", "^abc$", "(a|b)*", "[a-c]x", "[[:digit:]]{2}", "a)", ".", strings.Repeat("a", 60)} {
		memory := append([]byte(text), "spare room"...)
		pattern := unsafe.String(&memory[0], len(text))
		got, place, errno := Plain(pattern)
		if string(memory) != text+"spare room" {
			t.Errorf("P2: Plain(%q) wrote into its argument: %q", text, memory)
		}
		kept := strings.Clone(got)
		for i := range memory {
			memory[i] = '!'
		}
		if got != kept {
			t.Errorf("P2: the answer of Plain(%q) shares memory with its argument", text)
		}
		again, placeAgain, errnoAgain := Plain(text)
		if again != kept || placeAgain != place || errnoAgain != errno {
			t.Errorf("P2: Plain(%q) = %q, %d, %d, and later %q, %d, %d", text, kept, place, errno, again, placeAgain, errnoAgain)
		}
	}
}

func TestPlainHangsOnItsArgumentAlone(t *testing.T) {
	type answer struct {
		plain string
		place int
		errno api.Errno
	}
	ask := func(text string) answer {
		plain, place, errno := Plain(text)
		return answer{plain, place, errno}
	}
	texts := oddTexts()
	var first []answer
	for _, text := range texts {
		first = append(first, ask(text))
	}
	for i := len(texts) - 1; i >= 0; i-- {
		if again := ask(texts[i]); again != first[i] {
			t.Errorf("P2: Plain(%q) = %v, and later %v", texts[i], first[i], again)
		}
	}
}
