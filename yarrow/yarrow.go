// Package yarrow: patterns, and how texts match them: see DOC.md.
package yarrow

import (
	"yarrow/api"
	"yarrow/extract"
	"yarrow/match"
	"yarrow/tokens"
)

// Plain writes a pattern in one way (P3, P4).
func Plain(pattern string) (string, int, api.Errno) {
	parsed, place, errno := readPattern(pattern)
	if errno != api.OK {
		return "", place, errno
	}
	return parsed.Plain(), 0, api.OK
}

// Match tells how a text matches a pattern (P5).
func Match(pattern, text string) (string, bool, api.Errno) {
	parsed, _, errno := readPattern(pattern)
	if errno != api.OK {
		return "", false, errno
	}
	if len(text) > api.MaxText {
		return "", false, api.ErrLong
	}
	matcher := match.New(parsed, text)
	if !matcher.Can(0, len(text)) {
		return "", false, api.OK
	}
	told, errno := tell(matcher.Tree(0, len(text)))
	return told, errno == api.OK, errno
}

// Flat tells the text of a tree (P6).
func Flat(tree string) (string, int, api.Errno) {
	parsed, place, errno := readTree(tree)
	if errno != api.OK {
		return "", place, errno
	}
	return parsed.Flat(), 0, api.OK
}

// Fits tells whether a tree is one of a pattern (P6).
func Fits(pattern, tree string) (bool, api.Errno) {
	parsed, _, errno := readPattern(pattern)
	if errno != api.OK {
		return false, errno
	}
	parsedTree, _, errno := readTree(tree)
	if errno != api.OK {
		return false, errno
	}
	return match.Fits(parsed, parsedTree), api.OK
}

// Search looks for a pattern in a text (P7).
func Search(pattern, text string, from int) ([]int, api.Errno) {
	parsed, _, errno := readPattern(pattern)
	if errno != api.OK {
		return nil, errno
	}
	if len(text) > api.MaxText {
		return nil, api.ErrLong
	}
	if from < 0 || from > len(text) {
		return nil, api.ErrArg
	}
	return match.New(parsed, text).Search(from), api.OK
}

// Tokens takes a text apart (P8).
func Tokens(rules []api.Rule, text string) ([]api.Token, int, api.Errno) {
	parsed, errno := readRules(rules)
	if errno != api.OK {
		return nil, 0, errno
	}
	if len(text) > api.MaxText {
		return nil, 0, api.ErrLong
	}
	list, end := tokens.Split(parsed, text)
	return list, end, api.OK
}

// Extract is the command (P9, P10).
func Extract(args []string, input string) (string, int) {
	command, ok := readCommand(args)
	if !ok {
		return "", extract.Wrong
	}
	lines, ok := extract.Lines(input)
	if !ok {
		return "", extract.Wrong
	}
	return command.Run(lines)
}
