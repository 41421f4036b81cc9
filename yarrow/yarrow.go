// Package yarrow: patterns, and how texts match them: see DOC.md.
package yarrow

import "yarrow/api"

// Plain writes a pattern in one way (P3, P4).
func Plain(pattern string) (string, int, api.Errno) {
	parsed, place, errno := read(pattern)
	if errno != api.OK {
		return "", place, errno
	}
	return parsed.Plain(), 0, api.OK
}

// Match tells how a text matches a pattern (P5).
func Match(pattern, text string) (string, bool, api.Errno) { return "", false, api.OK }

// Flat tells the text of a tree (P6).
func Flat(tree string) (string, int, api.Errno) { return "", 0, api.OK }

// Fits tells whether a tree is one of a pattern (P6).
func Fits(pattern, tree string) (bool, api.Errno) { return false, api.OK }

// Search looks for a pattern in a text (P7).
func Search(pattern, text string, from int) ([]int, api.Errno) { return nil, api.OK }

// Tokens takes a text apart (P8).
func Tokens(rules []api.Rule, text string) ([]api.Token, int, api.Errno) { return nil, 0, api.OK }

// Extract is the command (P9, P10).
func Extract(args []string, input string) (string, int) { return "", 0 }
