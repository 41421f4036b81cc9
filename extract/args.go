package extract

import "strings"

// Options are what the arguments ask for by letters.
type Options struct {
	Count     bool // c: how many lines, not which
	AnySize   bool // i: letters of either size
	Numbers   bool // n: with the numbers of the lines
	Stretches bool // o, or a template: what matches in the lines, not the lines
	Others    bool // v: the lines that do not match
	Whole     bool // x: a line matches as a whole
}

// Args are arguments taken apart. The template and the pattern are not read yet.
type Args struct {
	Options
	Template, Pattern string
}

// wholeStretch is the template that tells what o alone does.
const wholeStretch = `\0`

// ReadArgs takes arguments apart, and tells whether they are options and one pattern.
func ReadArgs(args []string) (Args, bool) {
	read := Args{Template: wholeStretch}
	for len(args) > 0 && beginsOption(args[0]) {
		option := args[0]
		args = args[1:]
		switch option {
		case "--":
			return read.withPattern(args)
		case "-t":
			if len(args) == 0 {
				return Args{}, false
			}
			read.Stretches, read.Template = true, args[0]
			args = args[1:]
		default:
			if !read.addLetters(option[1:]) {
				return Args{}, false
			}
		}
	}
	return read.withPattern(args)
}

func beginsOption(arg string) bool { return strings.HasPrefix(arg, "-") && arg != "-" }

func (a Args) withPattern(left []string) (Args, bool) {
	if len(left) != 1 {
		return Args{}, false
	}
	a.Pattern = left[0]
	return a, true
}

func (o *Options) addLetters(letters string) bool {
	for i := range len(letters) {
		if !o.addLetter(letters[i]) {
			return false
		}
	}
	return true
}

func (o *Options) addLetter(letter byte) bool {
	switch letter {
	case 'c':
		o.Count = true
	case 'i':
		o.AnySize = true
	case 'n':
		o.Numbers = true
	case 'o':
		o.Stretches = true
	case 'v':
		o.Others = true
	case 'x':
		o.Whole = true
	default:
		return false
	}
	return true
}
