package yarrow

import (
	"fmt"
	"math/rand/v2"
	"regexp"
	"slices"
	"strings"
	"testing"

	"yarrow/api"
)

type searchCase struct {
	pattern, text string
	from          int
	want          []int
}

func checkSearch(t *testing.T, cases []searchCase) {
	t.Helper()
	for _, c := range cases {
		got, errno := Search(c.pattern, c.text, c.from)
		if !slices.Equal(got, c.want) || (got == nil) != (c.want == nil) || errno != api.OK {
			t.Errorf("P7: Search(%q, %q, %d) = %v, %d, want %v, OK", c.pattern, c.text, c.from, got, errno, c.want)
		}
	}
}

// fromEach has one answer for each place of the text.
func fromEach(pattern, text string, want ...[]int) []searchCase {
	var cases []searchCase
	for from, one := range want {
		cases = append(cases, searchCase{pattern, text, from, one})
	}
	if len(cases) != len(text)+1 {
		panic("not one answer for each place of " + text)
	}
	return cases
}

func TestSearchOfTheDocumentsExamples(t *testing.T) {
	checkSearch(t, []searchCase{{"b*", "abb", 0, []int{0, 0}}, {"b*", "abb", 1, []int{1, 3}}, {"b+$", "abb", 0, []int{1, 3}}, {"^b", "abb", 0, nil}})
}

func TestSearchFromEachPlaceWithoutMarks(t *testing.T) {
	checkSearch(t, fromEach("a", "bab", []int{1, 2}, []int{1, 2}, nil, nil))
	checkSearch(t, fromEach("b+", "abb", []int{1, 3}, []int{1, 3}, []int{2, 3}, nil))
	checkSearch(t, fromEach("b*", "abba", []int{0, 0}, []int{1, 3}, []int{2, 3}, []int{3, 3}, []int{4, 4}))
	checkSearch(t, fromEach("", "ab", []int{0, 0}, []int{1, 1}, []int{2, 2}))
	checkSearch(t, fromEach("ab|bca|b", "abcab", []int{0, 2}, []int{1, 4}, []int{3, 5}, []int{3, 5}, []int{4, 5}, nil))
	checkSearch(t, fromEach("c", "ab", nil, nil, nil))
	checkSearch(t, fromEach("", "", []int{0, 0}))
	checkSearch(t, fromEach("a", "", nil))
	checkSearch(t, fromEach(".", "\xff\x00\n", []int{0, 1}, []int{1, 2}, []int{2, 3}, nil))
	checkSearch(t, fromEach(`[^\x00-\xff]`, "a", nil, nil))
}

func TestSearchFromEachPlaceWithMarks(t *testing.T) {
	// The marks mean the beginning of the text, not that of what is looked through.
	checkSearch(t, fromEach("^a", "aa", []int{0, 1}, nil, nil))
	checkSearch(t, fromEach("^a", "ba", nil, nil, nil))
	checkSearch(t, fromEach("^", "ab", []int{0, 0}, nil, nil))
	checkSearch(t, fromEach("^b*", "ab", []int{0, 0}, nil, nil))
	checkSearch(t, fromEach("a$", "aaba", []int{3, 4}, []int{3, 4}, []int{3, 4}, []int{3, 4}, nil))
	checkSearch(t, fromEach("a*$", "aab", []int{3, 3}, []int{3, 3}, []int{3, 3}, []int{3, 3}))
	checkSearch(t, fromEach("a*$", "baa", []int{1, 3}, []int{1, 3}, []int{2, 3}, []int{3, 3}))
	checkSearch(t, fromEach("$", "ab", []int{2, 2}, []int{2, 2}, []int{2, 2}))
	checkSearch(t, fromEach("ab$", "abc", nil, nil, nil, nil))
	checkSearch(t, fromEach("^a*$", "aaa", []int{0, 3}, nil, nil, nil))
	checkSearch(t, fromEach("^a*$", "aab", nil, nil, nil, nil))
	checkSearch(t, fromEach("^$", "", []int{0, 0}))
	checkSearch(t, fromEach("^$", "a", nil, nil))
	// They hold for all the ways.
	checkSearch(t, fromEach("^a|b", "ab", []int{0, 1}, nil, nil))
	checkSearch(t, fromEach("^a|b", "cb", nil, nil, nil))
	checkSearch(t, fromEach("a|b$", "ab", []int{1, 2}, []int{1, 2}, nil))
	checkSearch(t, fromEach("^a|b$", "ab", nil, nil, nil))
	checkSearch(t, fromEach("^a|ab$", "ab", []int{0, 2}, nil, nil))
	// A newline is a byte as any other.
	checkSearch(t, fromEach("a$", "a\na\n", nil, nil, nil, nil, nil))
	checkSearch(t, fromEach("^a", "\na", nil, nil, nil))
}

// Of those that begin at the same place the longest, though another way is the first.
func TestSearchTellsTheLongest(t *testing.T) {
	checkSearch(t, []searchCase{
		{"a|ab|abc", "xabcd", 0, []int{1, 4}}, {"abc|ab|a", "xabcd", 0, []int{1, 4}}, {"|a|", "a", 0, []int{0, 1}}, {"|ab", "aab", 0, []int{0, 0}}, {"(a|ab)(c|bcd)?", "abcd", 0, []int{0, 4, 0, 1, 1, 4}}, {"(a|ab)(c|bcd)?", "abce", 0, []int{0, 3, 0, 2, 2, 3}},
		{"b|abcd", "abcx", 0, []int{1, 2}}, {"a?|b+", "bbb", 0, []int{0, 3}}, {"a{2,3}", "aaaa", 0, []int{0, 3}}, {"a{2,3}", "aaaa", 2, []int{2, 4}}, {"a{2,3}", "aaaa", 3, nil},
		{".*", strings.Repeat("a", 100), 0, []int{0, 100}}, {".*", strings.Repeat("a", 100), 100, []int{100, 100}}, {"b", strings.Repeat("a", 99) + "b", 0, []int{99, 100}}, {"^.*b", strings.Repeat("ab", 50), 0, []int{0, 100}}, {"a$", strings.Repeat("a", 100), 7, []int{99, 100}}, {".{5}", strings.Repeat("a", 100), 95, []int{95, 100}}, {".{5}", strings.Repeat("a", 100), 96, nil},
	})
}

func TestSearchTellsWhatTheGroupsMatched(t *testing.T) {
	checkSearch(t, []searchCase{
		{"(a)(b)?", "xab", 0, []int{1, 3, 1, 2, 2, 3}}, {"(a)(b)?", "xac", 0, []int{1, 2, 1, 2, -1, -1}}, {"(a|ab)(c|bcd)(d*)", "xabcd", 0, []int{1, 5, 1, 3, 3, 4, 4, 5}}, {"(a)|(b)", "b", 0, []int{0, 1, -1, -1, 0, 1}}, {"(a)|(b)", "ba", 1, []int{1, 2, 1, 2, -1, -1}},
		{"((a)(b))(c)", "zzabc", 1, []int{2, 5, 2, 4, 2, 3, 3, 4, 4, 5}}, {"(a)(b)(c)(d)(e)(f)(g)(h)(i)", "abcdefghi", 0, []int{0, 9, 0, 1, 1, 2, 2, 3, 3, 4, 4, 5, 5, 6, 6, 7, 7, 8, 8, 9}}, {"((((((a))))))", "ba", 0, []int{1, 2, 1, 2, 1, 2, 1, 2, 1, 2, 1, 2, 1, 2}},
		// A group that matches nothing is there, one that does not match is not.
		{"()", "a", 1, []int{1, 1, 1, 1}}, {"a()b", "ab", 0, []int{0, 2, 1, 1}}, {"()?", "", 0, []int{0, 0, -1, -1}}, {"(a*)*", "b", 0, []int{0, 0, -1, -1}}, {"(a*)+", "b", 0, []int{0, 0, 0, 0}}, {"(a){0}b", "ab", 0, []int{1, 2, -1, -1}}, {"(a*)b(c*)", "b", 0, []int{0, 1, 0, 0, 1, 1}}, {"((a)|(b)|())c", "c", 0, []int{0, 1, 0, 0, -1, -1, -1, -1, 0, 0}},
		// With a mark.
		{"^(a*)(a)$", "aaa", 0, []int{0, 3, 0, 2, 2, 3}}, {"(a|ab)(b*)$", "aabb", 0, []int{1, 4, 1, 3, 3, 4}}, {"^(b)?", "ab", 0, []int{0, 0, -1, -1}}, {"(b)?$", "ab", 2, []int{2, 2, -1, -1}},
	})
}

func TestSearchTellsWhatAGroupMatchedLast(t *testing.T) {
	checkSearch(t, []searchCase{
		{"(a)*", "aaab", 0, []int{0, 3, 2, 3}}, {"(a|b)+", "abba", 1, []int{1, 4, 3, 4}}, {"(ab|a){2}", "aba", 0, []int{0, 3, 2, 3}}, {"((a*)b)*", "abb", 0, []int{0, 3, 2, 3, 2, 2}},
		// What a later time leaves out keeps what it had.
		{"((a)|b)*", "ab", 0, []int{0, 2, 1, 2, 0, 1}}, {"((a)|(b))*", "abb", 0, []int{0, 3, 2, 3, 0, 1, 2, 3}}, {"((a)|(b)|(c))*", "cab", 0, []int{0, 3, 2, 3, 1, 2, 2, 3, 0, 1}}, {"((a)?b)*", "abb", 0, []int{0, 3, 2, 3, 0, 1}}, {"(((a)|b)+c)*", "abcbc", 0, []int{0, 5, 3, 5, 3, 4, 0, 1}},
		// Times that match nothing, owed behind those that match something.
		{"(a?){2}", "a", 0, []int{0, 1, 1, 1}}, {"(a?){2}", "aa", 0, []int{0, 2, 1, 2}}, {"(a|){3}", "ab", 0, []int{0, 1, 1, 1}}, {"((a)|){3}", "aa", 0, []int{0, 2, 2, 2, 1, 2}}, {"((a)|(b)|()){4}", "ab", 0, []int{0, 2, 2, 2, 0, 1, 1, 2, 2, 2}}, {"((a?){2}){2}", "aaa", 0, []int{0, 3, 2, 3, 3, 3}}, {"((a*){2}b){2}", "aabb", 0, []int{0, 4, 3, 4, 3, 3}},
	})
}

// Trees that are too long to be told by Match.
func TestSearchOfTheLongestTrees(t *testing.T) {
	for _, pattern := range []string{"((((((a?){5}){5}){5}){5}){5}){5}", "((((((a*a*a*a*a*a*a*a*a*a*a*a*a*a*){5}){5}){5}){5}){5}){5}"} {
		checkSearch(t, []searchCase{{pattern, "", 0, make([]int, 14)}, {pattern, "b", 0, make([]int, 14)}, {pattern, "b", 1, slices.Repeat([]int{1}, 14)}})
		// The first time gets the byte, and all that are owed match nothing behind it.
		want := slices.Repeat([]int{1}, 14)
		want[0] = 0
		checkSearch(t, []searchCase{{pattern, "a", 0, want}})
		got, errno := Search(pattern, strings.Repeat("a", 100), 0)
		if len(got) != 14 || got[0] != 0 || got[1] != 100 || errno != api.OK {
			t.Errorf("P7: Search(%q, 100 bytes, 0) = %v, %d", pattern, got, errno)
		}
	}
}

func TestSearchOfWhatIsRefused(t *testing.T) {
	hundred := strings.Repeat("a", 100)
	const least, most = -1 << 63, 1<<63 - 1
	for _, c := range []struct {
		pattern, text string
		from          int
		want          api.Errno
	}{
		{hundred[:61], "a", 0, api.ErrLong}, {strings.Repeat(")", 61), hundred + "a", -1, api.ErrLong}, {hundred[:61], "", 1, api.ErrLong},
		{")", hundred + "a", -1, api.ErrPattern}, {"(", "", 0, api.ErrPattern}, {"a^", "a", 2, api.ErrPattern}, {"$a", hundred + "a", 0, api.ErrPattern},
		{"a", hundred + "a", 0, api.ErrLong}, {"a", hundred + "a", -1, api.ErrLong}, {"a", hundred + "a", 102, api.ErrLong}, {"^b", hundred + "a", least, api.ErrLong},
		{"a", "a", -1, api.ErrArg}, {"a", "a", 2, api.ErrArg}, {"", "", 1, api.ErrArg}, {"", "", -1, api.ErrArg}, {"a", hundred, 101, api.ErrArg}, {"a", hundred, -1, api.ErrArg}, {"a", "a", least, api.ErrArg}, {"a", "a", most, api.ErrArg}, {"^b", "a", 2, api.ErrArg}, {"$", "a", 2, api.ErrArg},
	} {
		if got, errno := Search(c.pattern, c.text, c.from); got != nil || errno != c.want {
			t.Errorf("P7: Search(%.70q, %d bytes, %d) = %v, %d, want nil, %d", c.pattern, len(c.text), c.from, got, errno, c.want)
		}
	}
	checkSearch(t, []searchCase{{hundred[:60], hundred, 40, []int{40, 100}}, {hundred[:60], hundred, 41, nil}})
}

// stretchesIn tells what the groups of a tree matched last, by going through its text from left to right.
func stretchesIn(tree string, groups, begin int) []int {
	told := append([]int{begin}, slices.Repeat([]int{-1}, 1+2*groups)...)
	type open struct{ group, begin int }
	var opened []open
	place := begin
	for i := 0; i < len(tree); i++ {
		switch {
		case strings.HasPrefix(tree[i:], "(g"):
			opened = append(opened, open{int(tree[i+2] - '0'), place})
		case tree[i] == '(':
			opened = append(opened, open{})
		case tree[i] == ')':
			last := opened[len(opened)-1]
			opened = opened[:len(opened)-1]
			if last.group > 0 {
				told[2*last.group], told[2*last.group+1] = last.begin, place
			}
		case tree[i] == 'b':
			place++
			i += 2
		}
	}
	told[1] = place
	return told
}

// searcher looks for a pattern by the document's words: of all stretches that match and are where the marks say, it takes the one that is told.
type searcher struct {
	pattern, text string
	whole         waysShape
	stretches     [][2]int
}

func newSearcher(pattern, text string) searcher {
	s := searcher{pattern: pattern, text: text, whole: shapeOf(pattern)}
	for begin := range len(text) + 1 {
		for end := begin; end <= len(text); end++ {
			allowed := (begin == 0 || !strings.HasPrefix(pattern, "^")) && (end == len(text) || !strings.HasSuffix(pattern, "$"))
			if allowed && s.whole.can(text[begin:end]) {
				s.stretches = append(s.stretches, [2]int{begin, end})
			}
		}
	}
	return s
}

func (s searcher) from(from int) []int {
	var best []int
	for _, one := range s.stretches {
		if one[0] >= from && (best == nil || one[0] < best[0] || one[0] == best[0] && one[1] > best[1]) {
			best = one[:]
		}
	}
	if best == nil {
		return nil
	}
	return stretchesIn(s.whole.meant(s.text[best[0]:best[1]]), strings.Count(s.pattern, "("), best[0])
}

func checkSearchByShape(t *testing.T, pattern string, texts []string) (found int) {
	t.Helper()
	middle := regexp.MustCompile(shapeOf(pattern).expression())
	middle.Longest()
	for _, text := range texts {
		s := newSearcher(pattern, text)
		for from := range len(text) + 1 {
			want := s.from(from)
			if !strings.HasPrefix(pattern, "^") && !strings.HasSuffix(pattern, "$") {
				// A second opinion on the test's own answer.
				other := middle.FindStringIndex(text[from:])
				if (other == nil) != (want == nil) || other != nil && (other[0]+from != want[0] || other[1]+from != want[1]) {
					t.Fatalf("the test itself is wrong: of %q and %q from %d it says %v", pattern, text, from, want)
				}
			}
			checkSearch(t, []searchCase{{pattern, text, from, want}})
			if want != nil {
				found++
			}
		}
	}
	return found
}

// marked has a pattern with no mark, with each, and with both.
func marked(pattern string) []string {
	return []string{pattern, "^" + pattern, pattern + "$", "^" + pattern + "$"}
}

func TestSearchByTheDocumentsWordsOfAllShortPatterns(t *testing.T) {
	texts := allTexts("ab", 3)
	for _, pattern := range allTexts("ab|()*?", 4) {
		if isPattern(pattern) {
			for _, one := range marked(pattern) {
				checkSearchByShape(t, one, texts)
			}
		}
	}
}

func TestSearchByTheDocumentsWordsOfPatternsAtRandom(t *testing.T) {
	texts := allTexts("abc", 5)
	looked, found := 0, 0
	for seed := range uint64(10000) {
		from := rand.New(rand.NewPCG(seed, 5))
		pattern := matchPattern(from, 2)
		if len(pattern) > 36 || !isPattern(pattern) {
			continue
		}
		looked++
		var sample []string
		for range 3 {
			sample = append(sample, texts[from.IntN(len(texts))])
		}
		found += checkSearchByShape(t, marked(pattern)[from.IntN(4)], sample)
	}
	if looked < 2500 || found < 10000 {
		t.Errorf("only %d patterns were looked at, and %d stretches found", looked, found)
	}
}

// Match, which is held against the document's words elsewhere, is quick enough for longer texts.
func TestSearchAgreesWithMatch(t *testing.T) {
	long := 0
	for seed := range uint64(6000) {
		from := rand.New(rand.NewPCG(seed, 6))
		pattern := matchPattern(from, 3)
		if len(pattern) > api.MaxPattern || !isPattern(pattern) {
			continue
		}
		text := ""
		for range from.IntN(101) {
			text += string("aaaaabbc"[from.IntN(8)])
		}
		at := from.IntN(len(text) + 1)
		got, errno := Search(pattern, text, at)
		if errno != api.OK {
			t.Fatalf("P7: Search(%q, %q, %d) = %v, %d", pattern, text, at, got, errno)
		}
		if got == nil {
			if _, is, _ := Match(pattern, ""); is {
				t.Errorf("P7: Search(%q, %q, %d) = nil, though the empty stretch matches", pattern, text, at)
			}
			continue
		}
		told, is, errno := Match(pattern, text[got[0]:got[1]])
		if errno == api.ErrLong {
			continue
		}
		if want := stretchesIn(told, strings.Count(pattern, "("), got[0]); !is || !slices.Equal(got, want) {
			t.Errorf("P7: Search(%q, %q, %d) = %v, want %v", pattern, text, at, got, want)
		}
		if got[1]-got[0] > 10 {
			long++
		}
	}
	if long < 100 {
		t.Errorf("only %d of the stretches were long", long)
	}
}

// numbersOf writes a list as a text, which is empty if the list is.
func numbersOf(list []int) string { return strings.Trim(fmt.Sprint(list), "[]") }

func TestTheListThatSearchTellsIsTheCallers(t *testing.T) {
	asks := []searchCase{{"(a)|(b)*", "bab", 0, nil}, {"()", "", 0, nil}, {"a", "ba", 1, nil}, {"^(a)?$", "b", 0, nil}}
	ask := func() (all [][]int) {
		for _, c := range asks {
			list, _ := Search(c.pattern, c.text, c.from)
			all = append(all, list)
		}
		return all
	}
	first, want := ask(), fmt.Sprint(ask())
	second := ask()
	for _, list := range first {
		list = list[:cap(list)]
		for i := range list {
			list[i] = 77
		}
	}
	if third := ask(); fmt.Sprint(second) != want || fmt.Sprint(third) != want {
		t.Errorf("P2: writing into lists that Search told changes others: %v, %v, want %s", second, third, want)
	}
}
