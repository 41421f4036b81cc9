package extract

import (
	"fmt"
	"slices"
	"strings"
	"testing"

	"yarrow/scan"
	"yarrow/syntax"
)

func TestReadArgs(t *testing.T) {
	all := Options{true, true, true, true, true, true}
	for _, c := range []struct {
		args []string
		want Args
	}{
		{[]string{"a"}, Args{Options{}, `\0`, "a"}}, {[]string{"-"}, Args{Options{}, `\0`, "-"}}, {[]string{""}, Args{Options{}, `\0`, ""}}, {[]string{"--", "-c"}, Args{Options{}, `\0`, "-c"}},
		{[]string{"-c", "a"}, Args{Options{Count: true}, `\0`, "a"}}, {[]string{"-i", "a"}, Args{Options{AnySize: true}, `\0`, "a"}}, {[]string{"-n", "a"}, Args{Options{Numbers: true}, `\0`, "a"}}, {[]string{"-o", "a"}, Args{Options{Stretches: true}, `\0`, "a"}}, {[]string{"-v", "a"}, Args{Options{Others: true}, `\0`, "a"}}, {[]string{"-x", "a"}, Args{Options{Whole: true}, `\0`, "a"}},
		{[]string{"-cin", "-ovx", "a"}, Args{all, `\0`, "a"}}, {[]string{"-t", "y", "a"}, Args{Options{Stretches: true}, "y", "a"}}, {[]string{"-t", "y", "-t", "--", "--", "a"}, Args{Options{Stretches: true}, "--", "a"}},
	} {
		if got, ok := ReadArgs(c.args); got != c.want || !ok {
			t.Errorf("ReadArgs(%q) = %v, %v, want %v", c.args, got, ok, c.want)
		}
	}
	for _, args := range [][]string{nil, {"-c"}, {"-t"}, {"-t", "a"}, {"-q", "a"}, {"-nt", "y", "a"}, {"--"}, {"a", "a"}, {"-", "a"}, {"--", "a", "a"}} {
		if got, ok := ReadArgs(args); got != (Args{}) || ok {
			t.Errorf("ReadArgs(%q) = %v, %v, want nothing", args, got, ok)
		}
	}
}

func TestFill(t *testing.T) {
	found := []int{1, 4, 1, 2, -1, -1, 4, 4}
	for text, want := range map[string]string{"": "", "y": "y", `\0`: "bcd", `\1`: "b", `<\2>`: "<>", `<\3>`: "<>", `\n\\\1n`: "\n\\bn", `\10`: "b0"} {
		if got := ParseTemplate(text, 3).Fill("abcde", found); got != want {
			t.Errorf("the template %q stands for %q, want %q", text, got, want)
		}
	}
}

func TestParseTemplateGivesUp(t *testing.T) {
	gaveUp := func(text string) (with any) {
		defer func() { with = recover() }()
		ParseTemplate(text, 3)
		return nil
	}
	for text, place := range map[string]int{`\`: 1, `a\`: 2, `\4`: 1, `\3\9`: 3, `\a`: 1, `\\\`: 3, `\N`: 1, `\/`: 1, `\:`: 1} {
		if with := gaveUp(text); with != (scan.Fault{Place: place}) {
			t.Errorf("ParseTemplate(%q) gives up with %v, want the place %d", text, with, place)
		}
	}
}

func TestLines(t *testing.T) {
	for input, want := range map[string][]string{"": nil, "\n": {""}, "a": {"a"}, "a\n": {"a"}, "a\n\n": {"a", ""}, "\na": {"", "a"}, "a\r\nb": {"a\r", "b"}} {
		if got, ok := Lines(input); !slices.Equal(got, want) || !ok {
			t.Errorf("Lines(%q) = %q, %v, want %q", input, got, ok, want)
		}
	}
	for _, input := range []string{strings.Repeat("\n", 2001), strings.Repeat("a", 101), "a\n" + strings.Repeat("a", 101) + "\n"} {
		if got, ok := Lines(input); got != nil || ok {
			t.Errorf("Lines of %d bytes = %q, %v, want nothing", len(input), got, ok)
		}
	}
}

// A command that has been made can be run again and again, and the pattern is as it was.
func TestRunAgain(t *testing.T) {
	pattern := syntax.Parse("(a|b)+")
	before := fmt.Sprint(pattern)
	command := New(Options{AnySize: true, Numbers: true, Stretches: true}, pattern, ParseTemplate(`\1`, 1))
	for range 2 {
		if output, status := command.Run([]string{"aB", "c", "Ac"}); output != "1:B\n3:A\n" || status != SomeSelected {
			t.Errorf("Run = %q, %d", output, status)
		}
	}
	if fmt.Sprint(pattern) != before {
		t.Errorf("New changed the pattern that it was given")
	}
}
