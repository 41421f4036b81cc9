package yarrow

import (
	"yarrow/api"
	"yarrow/scan"
	"yarrow/syntax"
	"yarrow/tree"
)

// readPattern takes a pattern in, as every call that has one must (P3). The place is the one that Plain tells.
func readPattern(pattern string) (syntax.Pattern, int, api.Errno) {
	return read(pattern, api.MaxPattern, syntax.Parse, api.ErrPattern)
}

// readTree takes a tree in (P6). The place is the one that Flat tells.
func readTree(text string) (tree.Tree, int, api.Errno) {
	return read(text, api.MaxTree, tree.Parse, api.ErrTree)
}

// read catches what parse gives up with, and answers wrong then.
func read[T any](text string, most int, parse func(string) T, wrong api.Errno) (parsed T, place int, errno api.Errno) {
	if len(text) > most {
		return parsed, 0, api.ErrLong
	}
	defer func() {
		switch caught := recover().(type) {
		case nil:
		case scan.Fault:
			place, errno = caught.Place, wrong
		default:
			// A fault of the program itself must not pass for one of the text.
			panic(caught)
		}
	}()
	return parse(text), 0, api.OK
}
