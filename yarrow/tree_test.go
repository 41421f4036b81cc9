package yarrow

import (
	"fmt"
	"math/rand/v2"
	"regexp"
	"slices"
	"strings"
	"testing"

	"yarrow/api"
)

func checkFlat(t *testing.T, tree, want string) {
	t.Helper()
	if got, place, errno := Flat(tree); got != want || place != 0 || errno != api.OK {
		t.Errorf("P6: Flat(%.80q) = %.80q, %d, %d, want %.80q, 0, OK", tree, got, place, errno, want)
	}
}

func checkNoTree(t *testing.T, tree string, want int) {
	t.Helper()
	if got, place, errno := Flat(tree); got != "" || place != want || errno != api.ErrTree {
		t.Errorf("P6: Flat(%.80q) = %.80q, %d, %d, want \"\", %d, ErrTree", tree, got, place, errno, want)
	}
}

func TestFlat(t *testing.T) {
	for tree, want := range map[string]string{
		"e": "", "b00": "\x00", "b0a": "\n", "bff": "\xff", "ba0": "\xa0", "(r)": "", "(r e)": "", "(r (r))": "", "(r b61 b62 b63)": "abc", "(s e e)": "", "(s b61 b62 b63)": "abc", "(s (s b61 e) (r b62) b63)": "abc",
		"(g1 e)": "", "(g9 b61)": "a", "(g1 (g1 b61))": "a", "(a0 e)": "", "(a9 b61)": "a", "(a10 b61)": "a", "(a50 b61)": "a", "(a59 (a0 b61))": "a",
		"(s (g1 (a1 (s b61 b62))) (g2 (a0 b63)) (g3 (r b64)))": "abcd", "(s b64 (r b63 (g2 b62)) (a3 b61))": "dcba",
	} {
		checkFlat(t, tree, want)
	}
	for b := range 256 {
		checkFlat(t, fmt.Sprintf("b%02x", b), string([]byte{byte(b)}))
	}
	for number := range 60 {
		checkFlat(t, fmt.Sprintf("(a%d b61)", number), "a")
	}
	for number := 1; number <= 9; number++ {
		checkFlat(t, fmt.Sprintf("(g%d b61)", number), "a")
	}
}

func TestFlatOfWrongTrees(t *testing.T) {
	for tree, want := range map[string]int{
		"": 0, "x": 0, " ": 0, ")": 0, "E": 0, "a": 0, "g1 e": 0, "\x00": 0, "ee": 1, "e ": 1, "e)": 1, "e\n": 1,
		"b": 1, "b6": 2, "bg": 1, "b6g": 2, "bF": 1, "b6F": 2, "b ": 1, "b6 ": 2, "b610": 3, "b61 b62": 3,
		"(": 1, "()": 1, "( ": 1, "((": 1, "(e)": 1, "(b61)": 1, "(x": 1, "(R)": 1,
		"(r": 2, "(r1": 2, "(re)": 2, "(r(": 2, "(r ": 3, "(r )": 3, "(r  e)": 3, "(r e": 4, "(r ee)": 4, "(r e )": 5, "(r))": 3, "(r)e": 3, "(r) ": 3,
		"(s": 2, "(s)": 2, "(s ": 3, "(s )": 3, "(s e": 4, "(s e)": 4, "(s e ": 5, "(s e )": 5, "(s e e": 6, "(s e ee": 6, "(s b61)": 6, "(s2 e e)": 2, "(s e e)e": 7,
		"(g": 2, "(g ": 2, "(g)": 2, "(g e)": 2, "(g0": 2, "(g:": 2, "(ga": 2, "(g1": 3, "(g1)": 3, "(g1e": 3, "(g10": 3, "(g01": 2, "(g1 ": 4, "(g1 )": 4, "(g1 e": 5, "(g1 e ": 5, "(g1 e e)": 5, "(g9 e)e": 6,
		"(a": 2, "(a ": 2, "(a e)": 2, "(ax": 2, "(a-1": 2, "(a0": 3, "(a00": 3, "(a01": 3, "(a0)": 3, "(a0e": 3, "(a1": 3, "(a5": 3, "(a6": 3, "(a9": 3, "(a10": 4, "(a59": 4, "(a60": 3, "(a61 e)": 3, "(a99": 3, "(a100": 4, "(a590": 4, "(a59)": 4, "(a59 ": 5, "(a59 )": 5, "(a0 e": 5, "(a0 e e)": 5, "(a0 e)e": 6,
		"(s (s e) e)": 7, "(r (g1 (a0 (s b61 bx": 19, "(r (r (r (r": 11, "(s e (r e) (g0 e))": 13,
	} {
		checkNoTree(t, tree, want)
	}
}

func TestFlatOfDeepTrees(t *testing.T) {
	for _, head := range []string{"(r ", "(g1 ", "(a0 ", "(a59 ", "(s e "} {
		sixty := strings.Repeat(head, 60)
		checkFlat(t, sixty+"b61"+strings.Repeat(")", 60), "a")
		checkNoTree(t, sixty, len(sixty))
		checkNoTree(t, sixty+"(r)"+strings.Repeat(")", 60), len(sixty))
		checkNoTree(t, strings.Repeat(head, 61)+"b61"+strings.Repeat(")", 61), len(sixty))
		checkNoTree(t, sixty+"e"+strings.Repeat(")", 59), len(sixty)+60)
		checkNoTree(t, sixty+"e"+strings.Repeat(")", 61), len(sixty)+61)
	}
	// Brackets that have been closed are not open.
	fifty := "(r" + strings.Repeat(" ("+strings.Repeat("r (", 58)+"r)"+strings.Repeat(")", 58), 50) + ")"
	checkFlat(t, fifty, "")
	checkFlat(t, "(r"+strings.Repeat(" (r)", 4999)+")", "")
}

// longTree has this many bytes, from 30 on.
func longTree(length int) (tree, flat string) {
	tree = "(r"
	if length%2 == 0 {
		tree = "(r (a0 e)"
	}
	for length-len(tree)-1 >= 4 {
		tree, flat = tree+" b61", flat+"a"
	}
	return tree + strings.Repeat(" e", (length-len(tree)-1)/2) + ")", flat
}

func TestFlatOfLongTrees(t *testing.T) {
	for _, length := range []int{101, 400, 19998, 19999, 20000} {
		tree, flat := longTree(length)
		if len(tree) != length {
			t.Fatalf("a tree of %d bytes has %d", length, len(tree))
		}
		checkFlat(t, tree, flat)
		// Of these, the one of 19999 bytes has no other thing in it than bytes.
		if fits, errno := Fits("a*", tree); fits != (length == 19999) || errno != api.OK {
			t.Errorf("P6: Fits of a tree of %d bytes = %v, %d", length, fits, errno)
		}
		if length < 20000 {
			checkNoTree(t, tree+" ", length)
		}
	}
	tooLong, _ := longTree(20001)
	longest, _ := longTree(20000)
	for _, tree := range []string{tooLong, longest + " ", strings.Repeat("x", 20001), strings.Repeat("(", 5000000)} {
		if got, place, errno := Flat(tree); got != "" || place != 0 || errno != api.ErrLong {
			t.Errorf("P6: Flat of %d bytes = %.80q, %d, %d, want \"\", 0, ErrLong", len(tree), got, place, errno)
		}
	}
	checkNoTree(t, longest[:19999], 19999)
	checkNoTree(t, tooLong[:20000], 20000)
}

// cutRule tells at which places it can end, and whether the text breaks off where it could go on.
type cutRule func(text string, from int) (ends []int, cut bool)

func anyOf(bytes string) cutRule {
	return func(text string, from int) ([]int, bool) {
		switch {
		case from == len(text):
			return nil, true
		case strings.IndexByte(bytes, text[from]) < 0:
			return nil, false
		}
		return []int{from + 1}, false
	}
}

func inTurn(rules ...cutRule) cutRule {
	return func(text string, from int) ([]int, bool) {
		at, cut := []int{from}, false
		for _, r := range rules {
			var next []int
			for _, place := range at {
				ends, also := r(text, place)
				next, cut = append(next, ends...), cut || also
			}
			at = next
		}
		return at, cut
	}
}

func oneRule(rules ...cutRule) cutRule {
	return func(text string, from int) (all []int, cut bool) {
		for _, r := range rules {
			ends, also := r(text, from)
			all, cut = append(all, ends...), cut || also
		}
		return all, cut
	}
}

func oftenRule(r cutRule) cutRule {
	return func(text string, from int) (all []int, cut bool) {
		all = []int{from}
		for i := 0; i < len(all); i++ {
			ends, also := r(text, all[i])
			all, cut = append(all, ends...), cut || also
		}
		return all, cut
	}
}

// thingRule is what P6 says of trees, with so many brackets open.
func thingRule(open int) cutRule {
	const hex = "0123456789abcdef"
	simple := oneRule(anyOf("e"), inTurn(anyOf("b"), anyOf(hex), anyOf(hex)))
	if open == 60 {
		return simple
	}
	inside := inTurn(anyOf(" "), thingRule(open+1))
	number := oneRule(anyOf("0123456789"), inTurn(anyOf("12345"), anyOf("0123456789")))
	bracket := func(letter string, rules ...cutRule) cutRule {
		return inTurn(anyOf("("), anyOf(letter), inTurn(rules...), anyOf(")"))
	}
	return oneRule(simple, bracket("g", anyOf("123456789"), inside), bracket("r", oftenRule(inside)), bracket("s", inside, inside, oftenRule(inside)), bracket("a", number, inside))
}

// wrongInTree is P6's place, word for word, or -1 if the text is a tree.
func wrongInTree(rule cutRule, text string) int {
	for i := range len(text) {
		ends, cut := rule(text[:i+1], 0)
		whole := slices.Contains(ends, i+1)
		if !whole && !cut {
			return i
		}
		if whole && i+1 == len(text) {
			return -1
		}
	}
	return len(text)
}

func checkTreeByRule(t *testing.T, rule cutRule, text string) (right bool) {
	t.Helper()
	want := wrongInTree(rule, text)
	if want >= 0 {
		checkNoTree(t, text, want)
		return false
	}
	flat := ""
	for _, pair := range regexp.MustCompile("b[0-9a-f]{2}").FindAllString(text, -1) {
		var b byte
		fmt.Sscanf(pair[1:], "%02x", &b)
		flat += string([]byte{b})
	}
	checkFlat(t, text, flat)
	return true
}

func TestPlaceInAllShortTrees(t *testing.T) {
	rule := thingRule(0)
	for _, text := range allTexts("eb6(grsa)0159 x", 4) {
		checkTreeByRule(t, rule, text)
	}
	for b := range 256 {
		for _, head := range []string{"", "e", "b", "b6", "b61", "(", "(r", "(r ", "(r)", "(s", "(s ", "(s e", "(s e ", "(s e e", "(g", "(g1", "(g1 ", "(g1 e", "(a", "(a0", "(a1", "(a5", "(a6", "(a12", "(a12 ", "(a0 e"} {
			checkTreeByRule(t, rule, head+string([]byte{byte(b)}))
		}
	}
}

// randomTree makes a tree of any pattern's shape.
func randomTree(from *rand.Rand, depth int) string {
	kind := from.IntN(6)
	if depth == 0 {
		kind = from.IntN(2)
	}
	things := func(count int) (text string) {
		for range count {
			text += " " + randomTree(from, depth-1)
		}
		return text
	}
	switch kind {
	case 0:
		return "e"
	case 1:
		return fmt.Sprintf("b%02x", from.IntN(256))
	case 2:
		return fmt.Sprintf("(g%d%s)", 1+from.IntN(9), things(1))
	case 3:
		return fmt.Sprintf("(a%d%s)", from.IntN(60), things(1))
	case 4:
		return "(s" + things(2+from.IntN(2)) + ")"
	}
	return "(r" + things(from.IntN(3)) + ")"
}

func TestPlaceInTreesThatAreSpoilt(t *testing.T) {
	rule := thingRule(0)
	right, wrong := 0, 0
	for seed := range uint64(4000) {
		from := rand.New(rand.NewPCG(seed, 5))
		text := randomTree(from, 4)
		if len(text) > 100 {
			continue
		}
		if !checkTreeByRule(t, rule, text) {
			t.Errorf("the test itself is wrong: it does not take %q for a tree", text)
		}
		spoilt := []byte(text)
		place := from.IntN(len(spoilt))
		spoilt[place] = "eb6(grsa)0159 x"[from.IntN(15)]
		for _, other := range []string{string(spoilt), text[:place], text[:place] + text[place+1:], text[:place] + text[from.IntN(len(text)):]} {
			if checkTreeByRule(t, rule, other) {
				right++
			} else {
				wrong++
			}
		}
	}
	if right < 1000 || wrong < 5000 {
		t.Errorf("only %d right and %d wrong trees were looked at", right, wrong)
	}
}

func TestFits(t *testing.T) {
	for _, c := range []struct {
		pattern, tree string
		want          bool
	}{
		{"", "e", true}, {"", "(r)", false}, {"", "b61", false}, {"a", "b61", true}, {"a", "b62", false}, {"a", "e", false}, {"a", "(r b61)", false}, {"a", "(g1 b61)", false}, {"a", "(a0 b61)", false}, {"[b-d]", "b64", true}, {"[b-d]", "b65", false}, {"[^b-d]", "b65", true}, {".", "bff", true}, {`[^\x00-\xff]`, "b00", false}, {"^a$", "b61", true}, {"^$", "e", true},
		{"()", "(g1 e)", true}, {"()", "e", false}, {"()", "(g2 e)", false}, {"()()", "(s (g1 e) (g2 e))", true}, {"()()", "(s (g2 e) (g1 e))", false}, {"()()", "(s (g1 e) (g1 e))", false}, {"((a))", "(g1 (g2 b61))", true}, {"((a))", "(g1 b61)", false},
		{"ab", "(s b61 b62)", true}, {"ab", "(s b61 b61)", false}, {"ab", "(s b62 b61)", false}, {"ab", "b61", false}, {"ab", "(s b61 b62 b62)", false}, {"abc", "(s b61 b62)", false}, {"abc", "(s b61 (s b62 b63))", false}, {"ab", "(r b61 b62)", false}, {"ab", "(a0 (s b61 b62))", false},
		{"a|b", "(a0 b61)", true}, {"a|b", "(a1 b62)", true}, {"a|b", "(a0 b62)", false}, {"a|b", "(a2 b62)", false}, {"a|b", "(a59 b62)", false}, {"a|b", "b61", false}, {"a|b", "(g1 b61)", false}, {"a|a", "(a1 b61)", true}, {"|", "(a1 e)", true}, {strings.Repeat("|", 59) + "a", "(a59 b61)", true}, {strings.Repeat("|", 59) + "a", "(a58 b61)", false}, {strings.Repeat("|", 59) + "a", "(a58 e)", true}, {strings.Repeat("|", 60), "(a59 e)", true},
		{"a*", "(r)", true}, {"a*", "(r b61 b61 b61)", true}, {"a*", "(r b61 b62)", false}, {"a*", "b61", false}, {"a*", "e", false}, {"a*", "(r (r b61))", false}, {"a*", "(r e)", false}, {"a+", "(r)", false}, {"a+", "(r b61)", true}, {"a?", "(r)", true}, {"a?", "(r b61 b61)", false}, {"a{0}", "(r)", true}, {"a{0}", "(r b61)", false}, {"a{1}", "(r b61)", true}, {"a{1}", "b61", false}, {"a{2,3}", "(r b61)", false}, {"a{2,3}", "(r b61 b61)", true}, {"a{2,3}", "(r b61 b61 b61)", true}, {"a{2,3}", "(r b61 b61 b61 b61)", false}, {"a{5,}", "(r b61 b61 b61 b61)", false}, {"a{5,}", "(r b61 b61 b61 b61 b61 b61)", true},
		// One that fits need not be the one that is meant.
		{"(a*)*", "(r (g1 (r)) (g1 (r)))", true}, {"(a*)*", "(r (g1 (r b61)) (g1 (r)) (g1 (r b61)))", true}, {"a*a*", "(s (r) (r b61))", true}, {"(a|ab)(c|bcd)(d*)", "(s (g1 (a0 b61)) (g2 (a1 (s b62 b63 b64))) (g3 (r)))", true}, {"(){0,2}", "(r (g1 e) (g1 e))", true}, {"(){0,2}", "(r (g1 e) (g1 e) (g1 e))", false},
	} {
		if got, errno := Fits(c.pattern, c.tree); got != c.want || errno != api.OK {
			t.Errorf("P6: Fits(%q, %q) = %v, %d, want %v, OK", c.pattern, c.tree, got, errno, c.want)
		}
	}
}

func TestFitsOfWhatIsRefused(t *testing.T) {
	longTree, _ := longTree(20001)
	for _, c := range []struct {
		pattern, tree string
		want          api.Errno
	}{
		{strings.Repeat("a", 61), "b61", api.ErrLong}, {strings.Repeat("(", 61), "x", api.ErrLong}, {strings.Repeat("(", 61), longTree, api.ErrLong}, {"(", "b61", api.ErrPattern}, {")", "x", api.ErrPattern}, {")", longTree, api.ErrPattern},
		{"a*", longTree, api.ErrLong}, {"a", strings.Repeat("x", 20001), api.ErrLong}, {"a", strings.Repeat("(", 5000000), api.ErrLong}, {"a", strings.Repeat("x", 20000), api.ErrTree}, {"a", "", api.ErrTree}, {"", "", api.ErrTree}, {"a", "b61 ", api.ErrTree}, {"a", "(s b61)", api.ErrTree}, {"()", "(g0 e)", api.ErrTree}, {strings.Repeat("|", 60), "(a60 e)", api.ErrTree},
		{"", strings.Repeat("(r ", 61) + "e" + strings.Repeat(")", 61), api.ErrTree},
	} {
		if got, errno := Fits(c.pattern, c.tree); got || errno != c.want {
			t.Errorf("P6: Fits(%q, %.80q) = %v, %d, want false, %d", c.pattern, c.tree, got, errno, c.want)
		}
	}
}

// The trees of each pattern are held against some others too, so that many nearly fit.
func TestFitsByTheDocumentsWords(t *testing.T) {
	var patterns, trees []string
	for seed := uint64(0); len(patterns) < 600; seed++ {
		from := rand.New(rand.NewPCG(seed, 6))
		pattern := matchPattern(from, 1+from.IntN(2))
		if len(pattern) > 24 || !isPattern(pattern) || slices.Contains(patterns, pattern) {
			continue
		}
		patterns = append(patterns, pattern)
		for _, text := range []string{"", "a", "ab", "aab"} {
			if tree, is, _ := Match(pattern, text); is {
				trees = append(trees, tree, strings.Replace(tree, "(r", "(r b61", 1), strings.Replace(tree, "b61", "b62", 1), strings.Replace(tree, " (g1 e)", " (g1 e) (g1 e)", 1), strings.Replace(tree, "(a0", "(a1", 1))
			}
		}
	}
	slices.Sort(trees)
	trees = slices.Compact(trees)
	rule := thingRule(0)
	trees = slices.DeleteFunc(trees, func(tree string) bool { return wrongInTree(rule, tree) >= 0 })
	fit := 0
	for _, pattern := range patterns {
		expression := regexp.MustCompile("^" + shapeOf(pattern).fitting() + "$")
		for _, tree := range trees {
			want := expression.MatchString(tree)
			if want {
				fit++
			}
			if got, errno := Fits(pattern, tree); got != want || errno != api.OK {
				t.Errorf("P6: Fits(%q, %q) = %v, %d, want %v, OK", pattern, tree, got, errno, want)
			}
		}
	}
	if len(trees) < 1000 || fit < 1500 {
		t.Errorf("only %d trees were looked at, and %d fit", len(trees), fit)
	}
}
