package yarrow

import (
	"slices"
	"strings"
	"testing"
)

// extractCase has its arguments with a blank between each two: a text of nothing is one empty argument.
type extractCase struct {
	args, input, want string
	status            int
}

func checkExtract(t *testing.T, promise string, cases []extractCase) {
	t.Helper()
	for _, c := range cases {
		got, status := Extract(strings.Split(c.args, " "), c.input)
		if got != c.want || status != c.status {
			t.Errorf("%s: Extract(%.150q, %.150q) = %.300q, %d, want %.300q, %d", promise, c.args, c.input, got, status, c.want, c.status)
		}
	}
}

// checkWrongArgs looks at inputs that have a line to be selected, one that has not, and no line.
func checkWrongArgs(t *testing.T, all ...string) {
	t.Helper()
	for _, args := range all {
		checkExtract(t, "P9", []extractCase{{args, "ab\n\nB", "", 2}, {args, "x", "", 2}, {args, "", "", 2}})
	}
}

func TestEachOption(t *testing.T) {
	const input = "ab\n\nxaby\nAB\nb"
	checkExtract(t, "P9", []extractCase{
		{"b", input, "ab\nxaby\nb\n", 0}, {"-c b", input, "3\n", 0}, {"-i b", input, "ab\nxaby\nAB\nb\n", 0}, {"-n b", input, "1:ab\n3:xaby\n5:b\n", 0}, {"-o b", input, "b\nb\nb\n", 0}, {"-v b", input, "\nAB\n", 0}, {"-x b", input, "b\n", 0}, {`-t <\0> b`, input, "<b>\n<b>\n<b>\n", 0},
		// Several in one argument, in several, and the same ones again.
		{"-in b", input, "1:ab\n3:xaby\n4:AB\n5:b\n", 0}, {"-ni b", input, "1:ab\n3:xaby\n4:AB\n5:b\n", 0}, {"-n -i b", input, "1:ab\n3:xaby\n4:AB\n5:b\n", 0}, {"-nn b", input, "1:ab\n3:xaby\n5:b\n", 0}, {"-n -n -n b", input, "1:ab\n3:xaby\n5:b\n", 0}, {"-vv b", input, "\nAB\n", 0}, {"-v -v b", input, "\nAB\n", 0}, {"-cc -c b", input, "3\n", 0}, {"-xixi -x b", input, "b\n", 0}, {"-oo -o b", input, "b\nb\nb\n", 0}, {"-cinovx b", input, "4\n", 0}, {"-xvonic b", input, "4\n", 0}, {"-noi -ion [ab]+", input, "1:ab\n3:ab\n4:AB\n5:b\n", 0},
		{"-" + strings.Repeat("nxcvio", 200000) + " b", input, "4\n", 0}, {strings.Repeat("-n ", 100000) + "b", "b", "1:b\n", 0},
	})
}

func TestWhatIsNoOption(t *testing.T) {
	for b := range 256 {
		if letter := string([]byte{byte(b)}); !strings.Contains("cinovx- ", letter) {
			checkWrongArgs(t, "-"+letter+" b", "-n"+letter+" b", "-"+letter+"n b", "-x -"+letter)
		}
	}
	checkWrongArgs(t, "-b", "--n b", "-n- b", "--- b", "-- -- b", "-n --n b", "-- b --", "-n -q b", "-q", "-\x00 b", "-C b", "-ü b", "--help", "--t x b")
}

func TestWhereTheOptionsEnd(t *testing.T) {
	const input = "-\n-n\n--\nb"
	checkExtract(t, "P9", []extractCase{
		{"-- b", input, "b\n", 0}, {"-- -n", input, "-n\n", 0}, {"-- -", input, "-\n-n\n--\n", 0}, {"-- --", input, "--\n", 0}, {"-- -t", input, "", 1}, {"-- ", input, "-\n-n\n--\nb\n", 0}, {"-n -- b", input, "4:b\n", 0}, {"-n -- -n", input, "2:-n\n", 0}, {"-t y -- -", input, "y\ny\ny\ny\n", 0},
		{"-", input, "-\n-n\n--\n", 0}, {"-n -", input, "1:-\n2:-n\n3:--\n", 0}, {"-x -", input, "-\n", 0}, {"", input, "-\n-n\n--\nb\n", 0}, {"-x ", "a\n\n", "\n", 0}, {"n", input, "-n\n", 0}, {"b-|-n", input, "-n\n", 0},
	})
	checkWrongArgs(t, "b -n", "b --", "b -", "- b", "- -", "- -n", "- --", " -n", "  ", "-- -n b", "-- b -n", "-n b -n", "b -t x", "-- b b")
}

// Nothing is no pattern, and two are too many.
func TestNotOnePattern(t *testing.T) {
	for _, args := range [][]string{nil, {}, {"--"}, {"-n"}, {"-n", "--"}, {"-cinovx"}, {"-t", "b"}, {"-n", "-t", "b"}, {"-t", "b", "-n"}, {"-t", "b", "--"}, {"b", "b"}, {"", ""}, {"b", ""}, {"", "b"}, {"-n", "b", "b"}, {"--", "b", "b"}, {"b", "b", "b"}, make([]string, 1000000), slices.Repeat([]string{"--"}, 1000000), slices.Repeat([]string{"-t"}, 1000000)} {
		for _, input := range []string{"b", "", "x\n"} {
			if got, status := Extract(args, input); got != "" || status != 2 {
				t.Errorf("P9: Extract(%.150q, %q) = %q, %d, want nothing, 2", args[:min(len(args), 4)], input, got, status)
			}
		}
	}
	// Every second one is a template, and what is left is the pattern.
	if got, status := Extract(append(slices.Repeat([]string{"-t"}, 1000000), "b"), "ab"); got != "-t\n" || status != 0 {
		t.Errorf("P9: Extract of many templates = %q, %d", got, status)
	}
}

func TestPatternsThatAreNone(t *testing.T) {
	for _, pattern := range []string{")", "(", "*", "a{6}", "a{2,1}", "[", "[b-a]", `\`, `\n`, "^^", "b$b", strings.Repeat("a", 61), strings.Repeat("(", 1000000), "(((((((a)))))))", strings.Repeat("()", 10)} {
		for _, options := range []string{"", "-c ", "-v ", "-x ", "-o ", "-t y ", "-cinovx -- "} {
			checkWrongArgs(t, options+pattern)
		}
	}
	sixty := strings.Repeat("a", 60)
	checkExtract(t, "P9", []extractCase{{sixty, sixty, sixty + "\n", 0}, {sixty, sixty[1:], "", 1}, {strings.Repeat("()", 9), "b", "b\n", 0}, {"((((((b))))))", "b", "b\n", 0}})
}

func TestTemplateArguments(t *testing.T) {
	checkExtract(t, "P9", []extractCase{
		{"-t y b", "ab", "y\n", 0}, {"-t y -n b", "ab", "1:y\n", 0}, {"-n -t y b", "ab", "1:y\n", 0},
		// What stands behind -t is a template, whatever it looks like.
		{"-t - b", "b", "-\n", 0}, {"-t -- b", "b", "--\n", 0}, {"-t -n b", "b", "-n\n", 0}, {"-t -t b", "b", "-t\n", 0}, {"-t -q b", "b", "-q\n", 0}, {"-t  b", "b", "\n", 0}, {"-t ) b", "b", ")\n", 0}, {"-t -t -t -n b", "b", "-n\n", 0},
		// The last one counts, and the others are not looked at.
		{"-t y -t z b", "b", "z\n", 0}, {"-t y -t z -t  b", "b", "\n", 0}, {`-t \ -t z b`, "b", "z\n", 0}, {`-t \q -n -t z b`, "b", "1:z\n", 0}, {`-t \9 -t \0 b`, "b", "b\n", 0}, {"-t " + strings.Repeat("y", 101) + " -t z b", "b", "z\n", 0}, {"-t y -t -- -- b", "b", "--\n", 0},
	})
	checkWrongArgs(t, "-t", "-n -t", "-t y -t", "-t y b -t", "-t b", "-t y", "-t y -n", "-t y b b", "-tn b", "-nt b", "-nt y b", "-tt y b", "-ty b", "-vt y b", "-- -t y b", `-t z -t \ b`, `-t z -t \q b`, `-t \0 -t \1 b`, "-t z -t "+strings.Repeat("y", 101)+" b")
}

func TestTemplatesAndWhatIsNone(t *testing.T) {
	nine := "(a)(b)(c)(d)(e)(f)(g)(h)(i)"
	checkExtract(t, "P9", []extractCase{
		{`-t \9\8\7\6\5\4\3\2\1\0 ` + nine, "abcdefghi", "ihgfedcbaabcdefghi\n", 0}, {`-t \0\0 b`, "ab", "bb\n", 0}, {`-t \00 b`, "ab", "b0\n", 0}, {`-t \10 (b)`, "ab", "b0\n", 0}, {`-t \n b`, "ab", "\n\n", 0}, {`-t \\ b`, "ab", "\\\n", 0}, {`-t \\0 b`, "ab", "\\0\n", 0}, {`-t \\\0 b`, "ab", "\\b\n", 0}, {`-t \\n b`, "ab", "\\n\n", 0}, {`-t \\\\\n\\ b`, "ab", "\\\\\n\\\n", 0}, {`-t n0/b b`, "ab", "n0/b\n", 0}, {"-t \x00\xff\n b", "ab", "\x00\xff\n\n", 0}, {"-t $1&{0} b", "ab", "$1&{0}\n", 0},
	})
	for b := range 256 {
		if sign := string([]byte{byte(b)}); !strings.Contains(`0123456789n\ `, sign) {
			checkWrongArgs(t, `-t \`+sign+" "+nine, `-t a\`+sign+`\0 `+nine)
			checkExtract(t, "P9", []extractCase{{"-t " + sign + " b", "b", sign + "\n", 0}})
		}
	}
	checkWrongArgs(t, `-t \ b`, `-t a\ b`, `-t \\\ b`, `-t \0\ b`, `-t \x41 b`, `-c -t \q b`, `-v -t \q b`, `-x -t \ b`, `-o -t \ b`)
}

func TestTemplatesOfGroupsThatThePatternHasNot(t *testing.T) {
	for groups := range 10 {
		pattern := strings.Repeat("(b?)", groups)
		for group := range 10 {
			template := `\` + string([]byte{'0' + byte(group)})
			if group > groups {
				checkWrongArgs(t, "-t "+template+" "+pattern, "-t y"+template+"y "+pattern, "-c -t "+template+" "+pattern, "-v -t "+template+" "+pattern, "-t "+template+`\0 `+pattern)
			} else if _, status := Extract([]string{"-t", template, pattern}, "ab"); status != 0 {
				t.Errorf("P9: the template %s of %q is refused", template, pattern)
			}
		}
	}
	// A bracket that is a single is no group.
	checkWrongArgs(t, `-t \1 \(b\)`, `-t \1 [(]b`, `-t \2 (b)[(]`)
	// One that does not match is there all the same.
	checkExtract(t, "P9", []extractCase{{`-t <\2> (b)|(c)`, "b", "<>\n", 0}, {`-t \1 (c){0}b`, "b", "\n", 0}})
}

func TestTheLongestTemplate(t *testing.T) {
	hundred := strings.Repeat("y", 100)
	checkExtract(t, "P9", []extractCase{{"-t " + hundred + " b", "b", hundred + "\n", 0}, {"-t " + strings.Repeat(`\0`, 50) + " b", "b", strings.Repeat("b", 50) + "\n", 0}, {"-t " + strings.Repeat(`\\`, 50) + " b", "b", strings.Repeat(`\`, 50) + "\n", 0}})
	checkWrongArgs(t, "-t "+hundred+"y b", "-c -t "+hundred+"y b", "-v -t "+hundred+"y b", "-t "+strings.Repeat(`\0`, 50)+"y b", "-t "+strings.Repeat("y", 5000000)+" b")
}

func TestTheLongestInput(t *testing.T) {
	a := strings.Repeat("a", 101)
	lines := strings.Repeat(a[:99]+"\n", 20)
	checkExtract(t, "P9", []extractCase{
		{"-c a", lines, "20\n", 0}, {"-c a", lines + "a", "", 2}, {"-c a", lines + "\n", "", 2}, {"-c b", lines[:1999] + "b", "1\n", 0}, {"-c b", lines[:1999] + "bb", "", 2}, {"-c b", strings.Repeat("\n", 2000), "0\n", 1}, {"-cv b", strings.Repeat("\n", 2000), "2000\n", 0}, {"-cv b", strings.Repeat("\n", 2001), "", 2}, {"b", strings.Repeat("b\n", 4000000), "", 2}, {"b", strings.Repeat("a", 2000), "", 2},
		{"-c a", a[1:], "1\n", 0}, {"-c a", a[1:] + "\n", "1\n", 0}, {"-c a", a, "", 2}, {"-c a", a + "\n", "", 2}, {"-c b", "b\n" + a, "", 2}, {"-c b", a + "\nb", "", 2}, {"-c b", "b\n" + a + "\nb\n", "", 2}, {"-c b", "b\n" + a[1:] + "\nb\n" + a[1:], "2\n", 0}, {"-v a", a, "", 2}, {"-x a*", a, "", 2}, {"-x a*", a[1:], a[1:] + "\n", 0}, {"-o a*", a[1:], a[1:] + "\n", 0},
	})
}
