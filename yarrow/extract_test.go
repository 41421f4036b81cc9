package yarrow

import (
	"fmt"
	"slices"
	"strings"
	"testing"
)

func TestExtractOfTheDocumentsExample(t *testing.T) {
	checkExtract(t, "P10", []extractCase{{"-on [0-9]+", "a1b22\nx\n", "1:1\n1:22\n", 0}, {"-on [0-9]+", "a1b22\nx", "1:1\n1:22\n", 0}})
}

func TestLinesOfTheInput(t *testing.T) {
	checkExtract(t, "P10", []extractCase{
		{"", "", "", 1}, {"-c ", "", "0\n", 1}, {"-v ", "", "", 1}, {"-v a", "", "", 1}, {"-x ", "", "", 1}, {"-o ", "", "", 1}, {"-cv a", "", "0\n", 1},
		{"-n ", "\n", "1:\n", 0}, {"-n ", "\n\n", "1:\n2:\n", 0}, {"-n ", "a", "1:a\n", 0}, {"-n ", "a\n", "1:a\n", 0}, {"-n ", "a\n\n", "1:a\n2:\n", 0}, {"-n ", "\na", "1:\n2:a\n", 0}, {"-n ", "\n\na\n\nb", "1:\n2:\n3:a\n4:\n5:b\n", 0}, {"-n ", "a\nb", "1:a\n2:b\n", 0}, {"-n ", "a\nb\n", "1:a\n2:b\n", 0},
		// Bytes that end a line elsewhere do not here.
		{"-n .", "\x00\xff\r\x0b\x0c\nb\r\n", "1:\x00\xff\r\x0b\x0c\n2:b\r\n", 0},
		// No line has a newline, whatever is looked for.
		{`\x0a`, "a\nb\n", "", 1}, {"-c [^a]", "a\na\n", "0\n", 1}, {"-o .*", "a\nb\n", "a\nb\n", 0},
		{"-n 9$", strings.Repeat("0\n", 999) + "9", "1000:9\n", 0},
	})
}

func TestWhichLinesAreSelected(t *testing.T) {
	const input = "ab\n\nxaby\nAB\nb"
	checkExtract(t, "P10", []extractCase{
		{"ab", input, "ab\nxaby\n", 0}, {"q", input, "", 1}, {"", input, "ab\n\nxaby\nAB\nb\n", 0}, {"q*", input, "ab\n\nxaby\nAB\nb\n", 0}, {".", input, "ab\nxaby\nAB\nb\n", 0},
		{"^b", input, "b\n", 0}, {"b$", input, "ab\nb\n", 0}, {"^$", input, "\n", 0}, {"^ab$", input, "ab\n", 0}, {"^a|b", input, "ab\nb\n", 0}, {"a|b$", input, "ab\nb\n", 0}, {"^", input, "ab\n\nxaby\nAB\nb\n", 0},
		{"-v ab", input, "\nAB\nb\n", 0}, {"-v ", input, "", 1}, {"-v q", input, "ab\n\nxaby\nAB\nb\n", 0}, {"-v ^b", input, "ab\n\nxaby\nAB\n", 0}, {"-v .", input, "\n", 0},
		{"-x ab", input, "ab\n", 0}, {"-x b", input, "b\n", 0}, {"-x ", input, "\n", 0}, {"-x a", input, "", 1}, {"-x .*b", input, "ab\nb\n", 0}, {"-x a|ab", input, "ab\n", 0}, {"-x ^ab", input, "ab\n", 0}, {"-x ab$", input, "ab\n", 0}, {"-x ^b*$", input, "\nb\n", 0}, {"-x .{4}", input, "xaby\n", 0},
		{"-xv ab", input, "\nxaby\nAB\nb\n", 0}, {"-xv .*", input, "", 1}, {"-xv q", input, "ab\n\nxaby\nAB\nb\n", 0},
	})
}

func TestLettersOfEitherSize(t *testing.T) {
	const input = "ab\n\nxaby\nAB\nb\n[{@`"
	checkExtract(t, "P10", []extractCase{
		{"-i ab", input, "ab\nxaby\nAB\n", 0}, {"-i AB", input, "ab\nxaby\nAB\n", 0}, {"-i aB", input, "ab\nxaby\nAB\n", 0}, {"-i q", input, "", 1}, {`-i \x41`, input, "ab\nxaby\nAB\n", 0}, {"-i [X-Z]", input, "xaby\n", 0}, {"-i [[:upper:]]y", input, "xaby\n", 0}, {"-i [[:lower:]]{2}", input, "ab\nxaby\nAB\n", 0}, {"-i (((a)B))", input, "ab\nxaby\nAB\n", 0}, {"-i q|(w|A)+", input, "ab\nxaby\nAB\n", 0},
		// A set of others that holds one size of a letter matches both; one that holds neither, none.
		{"-i [^a]B", input, "ab\nxaby\nAB\n", 0}, {"-i [^aA]B", input, "", 1}, {"-i [^[:lower:]]", input, "ab\nxaby\nAB\nb\n[{@`\n", 0}, {"-i [^[:alpha:]]", input, "[{@`\n", 0}, {`-i [^\x00-\xff]`, input, "", 1},
		// The bytes beside the letters are no letters.
		{`-i \[`, "{", "", 1}, {"-i @", "`", "", 1}, {`-i \{`, "[", "", 1}, {"-i `", "@", "", 1}, {"-i \xe4", "\xc4", "", 1}, {"-i \xc4", "\xe4", "", 1}, {"-i 1", "Q\x11", "", 1}, {"-i [Z-a]", "[\n^\n`\nz\nA\nb", "[\n^\n`\nz\nA\n", 0},
		{"-xi ab", input, "ab\nAB\n", 0}, {"-iv B", input, "\n[{@`\n", 0}, {"-ic b", input, "4\n", 0}, {"-io B", input, "b\nb\nB\nb\n", 0}, {"-in ^B", input, "5:b\n", 0}, {`-i -t \2\1 (A)(b)`, input, "ba\nba\nBA\n", 0}, {"-io a+", "aAbAa", "aA\nAa\n", 0}, {"-ion A|[b]c", "aBCb", "1:a\n1:BC\n", 0}, {`-ix -t <\1\2> (a*)(B)`, "AaB\nb", "<AaB>\n<b>\n", 0},
		// Without it they are not the same.
		{"B", input, "AB\n", 0}, {"[[:upper:]]", input, "AB\n", 0},
	})
	for b := range 256 {
		line := string([]byte{byte(b)})
		for _, letter := range "azAZmM" {
			want := 1
			if strings.EqualFold(line, string(letter)) {
				want = 0
			}
			if _, status := Extract([]string{"-i", string(letter)}, line); b != '\n' && status != want {
				t.Errorf("P10: Extract(-i %c, %q) answers %d, want %d", letter, line, status, want)
			}
		}
	}
}

func TestCountsAndNumbers(t *testing.T) {
	const input = "ab\n\nxaby\nAB\nb"
	checkExtract(t, "P10", []extractCase{
		{"-c b", input, "3\n", 0}, {"-c q", input, "0\n", 1}, {"-cv b", input, "2\n", 0}, {"-cv ", input, "0\n", 1}, {"-cx ", input, "1\n", 0}, {"-cx q", input, "0\n", 1}, {"-c ", input, "5\n", 0},
		// It goes ahead of all that would be told of a line.
		{"-cn b", input, "3\n", 0}, {"-co b", "bbb\nb", "2\n", 0}, {"-con b", "bbb\nb", "2\n", 0}, {"-cov b", "bbb\nb\na", "1\n", 0}, {`-c -t \0\0 b`, "bbb\nb", "2\n", 0}, {"-cv -t y b", "bbb\nb", "0\n", 1}, {"-cox b*", "bbb\n\na", "2\n", 0}, {"-co b*", "a", "1\n", 0},
		{"-n b", input, "1:ab\n3:xaby\n5:b\n", 0}, {"-nv b", input, "2:\n4:AB\n", 0}, {"-nx b", input, "5:b\n", 0}, {"-nxv b", input, "1:ab\n2:\n3:xaby\n4:AB\n", 0}, {"-n q", input, "", 1}, {"-n :", "1:2\n:", "1:1:2\n2::\n", 0},
	})
}

func TestStretchesOfALine(t *testing.T) {
	checkExtract(t, "P10", []extractCase{
		{"-o [0-9]+", "a1b22\nx\n3", "1\n22\n3\n", 0}, {"-no [0-9]+", "a1b22\nx\n3", "1:1\n1:22\n3:3\n", 0}, {"-o q", "a", "", 1}, {"-o a", "aaa", "a\na\na\n", 0}, {"-o aa", "aaaaa", "aa\naa\n", 0}, {"-o a|ab|b", "abab", "ab\nab\n", 0}, {"-o ab|bc|c", "abc", "ab\nc\n", 0}, {"-o a.", "aabab", "aa\nab\n", 0}, {"-o .", "\x00\xff", "\x00\n\xff\n", 0}, {"-o .*", "ab\n\nc", "ab\nc\n", 0},
		// With v there is nothing to tell, but the status.
		{"-ov a", "a\nb", "", 0}, {"-ov a", "a", "", 1}, {"-ovn a", "a\nb", "", 0}, {"-ovx a", "a\nab", "", 0}, {"-ovx a*", "a\n\naa", "", 1}, {"-v -t y a", "a\nb", "", 0}, {"-v -t y a", "a", "", 1}, {`-vnx -t <\0> a`, "b", "", 0}, {"-ov a*", "b", "", 1},
	})
}

// An empty one is not told, and what is behind it is found.
func TestEmptyStretches(t *testing.T) {
	checkExtract(t, "P10", []extractCase{
		{"-o b*", "abbcb", "bb\nb\n", 0}, {"-o b*", "bba", "bb\n", 0}, {"-o b*", "abb", "bb\n", 0}, {"-o b*", "acc", "", 0}, {"-o b*", "\n", "", 0}, {"-o ", "ab", "", 0}, {"-no b*", "ab\n\nb", "1:b\n3:b\n", 0}, {"-o ()", "abc", "", 0}, {"-o b?", "bb", "b\nb\n", 0}, {"-o b?", "babb", "b\nb\nb\n", 0}, {"-o |b", "ab", "b\n", 0}, {"-o b*|a", "abba", "a\nbb\na\n", 0}, {"-o (ab)*", "aabab", "abab\n", 0}, {"-o (aa|b)?", "aaab", "aa\nb\n", 0},
		{`-t <\0> b*`, "abbcb", "<bb>\n<b>\n", 0}, {"-t y b*", "a", "", 0}, {"-t y ", "abc", "", 0}, {`-t y (b*)`, "ab", "y\n", 0}, {`-n -t <\1> (b*)a?`, "aba", "1:<>\n1:<b>\n", 0},
		{"-o b*", strings.Repeat("a", 99) + "b", "b\n", 0}, {"-o b*", "b" + strings.Repeat("a", 99), "b\n", 0}, {"-o b*", strings.Repeat("a", 100), "", 0},
	})
}

// The marks mean the ends of the line, wherever one looks from.
func TestStretchesAndMarks(t *testing.T) {
	checkExtract(t, "P10", []extractCase{
		{"-o ^a", "aaa", "a\n", 0}, {"-o ^a", "aaa\nbaa\na", "a\na\n", 0}, {"-o a$", "aaa", "a\n", 0}, {"-o a*$", "aba", "a\n", 0}, {"-o a*$", "ab", "", 0}, {"-o ^a*", "aba", "a\n", 0}, {"-o ^a*", "baa", "", 0}, {"-o ^b*", "abb", "", 0}, {"-o ^(a|b)", "ab", "a\n", 0}, {"-o ^a|b", "ab", "a\n", 0}, {"-o a|b$", "aba", "a\n", 0}, {"-o ^.", "ab\ncd", "a\nc\n", 0}, {"-o .$", "ab\ncd", "b\nd\n", 0}, {"-o ^a+$", "aa\naab", "aa\n", 0}, {"-o ^$", "\na", "", 0}, {"-o ^", "ab", "", 0}, {"-o $", "ab", "", 0}, {"-o (a|ba)$", "aba", "ba\n", 0},
		{`-t <\1> ^(.)`, "aaa", "<a>\n", 0}, {`-t <\1> (.)$`, "abc", "<c>\n", 0}, {`-t <\1> ^(a*)`, "baa", "", 0}, {`-n -t <\1> (a*)$`, "baa\nb", "1:<aa>\n", 0},
	})
}

func TestTemplatesOfStretches(t *testing.T) {
	checkExtract(t, "P10", []extractCase{
		{`-t <\0> a+`, "aab a", "<aa>\n<a>\n", 0}, {`-t \2\1 (a)(b)?`, "ab a", "ba\na\n", 0}, {`-n -t \1 (.)b`, "abcb\nb\nxb", "1:a\n1:c\n3:x\n", 0}, {"-t  a", "aa", "\n\n", 0}, {"-n -t  a", "aa", "1:\n1:\n", 0}, {`-t \1\1-\2 (a)|(b)`, "abc", "aa-\n-b\n", 0}, {`-t \1 (a|b)+`, "ab.ba", "b\na\n", 0}, {`-t <\1|\2> ((a)|b)*`, "ab", "<b|a>\n", 0}, {`-t \1\3\2 (a|ab)(c|bcd)(d*)`, "xabcd", "abdc\n", 0},
		// A template that has newlines is told once, with one number.
		{`-n -t a\nb x`, "xx", "1:a\nb\n1:a\nb\n", 0}, {`-n -t \n x`, "x", "1:\n\n", 0},
		// It goes ahead of o, wherever that stands.
		{"-o -t y x", "x", "y\n", 0}, {"-t y -o x", "x", "y\n", 0}, {"-on -t y x", "axx", "1:y\n1:y\n", 0}, {"-t y q", "x", "", 1},
		{"-t " + strings.Repeat(`\0`, 50) + " .*", strings.Repeat(strings.Repeat("a", 99)+"\n", 20), strings.Repeat(strings.Repeat("a", 99*50)+"\n", 20), 0},
	})
}

// The whole line, even if it is empty, and though another match in it is longer by a way ahead.
func TestStretchesOfWholeLines(t *testing.T) {
	checkExtract(t, "P10", []extractCase{
		{"-ox a*", "aa\n\nab", "aa\n\n", 0}, {"-oxn ", "\n\na", "1:\n2:\n", 0}, {"-ox a|ab", "ab", "ab\n", 0}, {"-ox ^a*$", "aa\nb\n\n", "aa\n\n", 0}, {"-ox a", "aa", "", 1}, {"-oxn b*a?", "\nba\nab\na", "1:\n2:ba\n4:a\n", 0}, {"-ox a?", "aa\na", "a\n", 0},
		{`-x -t [\1] (a*)(b)*`, "aab\n\nc", "[aa]\n[]\n", 0}, {`-x -t <\0> a*`, "aa\n\nab", "<aa>\n<>\n", 0}, {`-nx -t \2,\1 (a|ab)(c|bcd)?`, "abcd\nabc\na", "1:bcd,a\n2:c,ab\n3:,a\n", 0}, {"-x -t y ", "\n", "y\n", 0}, {`-ox -t <\1> ^(.)*$`, "abc", "<c>\n", 0}, {`-x -t \1 (.).`, "abcd\nab", "a\n", 0},
	})
}

// extractAnswer has an errno, though of no kind, where the status tells that something is wrong.
func extractAnswer(input string, args ...string) answer {
	output, status := Extract(args, input)
	if status == 2 {
		return answer{text: output, errno: -1}
	}
	return answer{text: output, place: status}
}

func TestExtractDoesNotWriteIntoTheArguments(t *testing.T) {
	for _, args := range [][]string{{"-n", "-o", "-t", `\0`, "b*"}, {"--", "b"}, {"-", "b"}, {"-q"}, {}, {"-t"}, {"-cinovx", "-t", "y", "b"}, {"b"}} {
		list := append(make([]string, 0, 20), args...)
		spare := list[:cap(list)]
		for i := len(list); i < len(spare); i++ {
			spare[i] = "spare"
		}
		before := slices.Clone(spare)
		first, firstStatus := Extract(list, "abb\nb")
		second, secondStatus := Extract(list, "abb\nb")
		if !slices.Equal(spare, before) {
			t.Errorf("P2: Extract wrote into its arguments: %q", spare)
		}
		if first != second || firstStatus != secondStatus {
			t.Errorf("P2: Extract(%q) = %q, %d, and later %q, %d", args, first, firstStatus, second, secondStatus)
		}
	}
}

func TestExtractEndsSoonAtWhatIsHard(t *testing.T) {
	for _, pattern := range []string{"((((((a*a*a*a*a*a*a*a*a*a*a*a*a*a*){5}){5}){5}){5}){5}){5}", "((((((b?){5}){5}){5}){5}){5}){5}", strings.Repeat("a*", 30), "((((((a|b?){5}){5}){5}){5}){5}){5}b|."} {
		for _, input := range []string{strings.Repeat(strings.Repeat("a", 99)+"\n", 20), strings.Repeat("\n", 2000), strings.Repeat("a\n", 1000), strings.Repeat("ab", 50)} {
			for _, option := range []string{"-n", "-i", "-o", "-ox"} {
				if got, status := Extract([]string{option, pattern}, input); status == 2 {
					t.Errorf("P1: Extract(%s, %q, %.20q) = %q, 2", option, pattern, input, got)
				}
			}
		}
	}
}

// All 64 sets of letters, in each order of two arguments, say the same.
func TestOptionsInAnyOrder(t *testing.T) {
	const letters, input = "cinovx", "ab\n\nAB\nb\nabab"
	for set := range 64 {
		chosen := ""
		for i := range letters {
			if set>>i&1 == 1 {
				chosen += letters[i : i+1]
			}
		}
		args := []string{"[ab]{2}"}
		if chosen != "" {
			args = []string{"-" + chosen, "[ab]{2}"}
		}
		want := fmt.Sprint(Extract(args, input))
		for cut := range chosen {
			// The second part ahead of the first one, and the first one twice.
			other := []string{"-" + chosen[cut:], "-" + chosen[:cut+1], "--", "[ab]{2}"}
			if got := fmt.Sprint(Extract(other, input)); got != want {
				t.Errorf("P9: Extract(%q) = %s, want %s", other, got, want)
			}
		}
	}
}
