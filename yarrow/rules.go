package yarrow

import (
	"slices"

	"yarrow/api"
	"yarrow/ascii"
	"yarrow/tokens"
)

// readRules takes the rules of a tokeniser in (P8).
func readRules(rules []api.Rule) ([]tokens.Rule, api.Errno) {
	if len(rules) == 0 || len(rules) > api.MaxRules {
		return nil, api.ErrArg
	}
	var read []tokens.Rule
	for i, rule := range rules {
		if errno := checkName(rule.Name, rules[:i]); errno != api.OK {
			return nil, errno
		}
		pattern, _, errno := readPattern(rule.Pattern)
		if errno != api.OK {
			return nil, errno
		}
		read = append(read, tokens.Rule{Pattern: pattern, Skip: rule.Skip})
	}
	return read, api.OK
}

func checkName(name string, ahead []api.Rule) api.Errno {
	if !isName(name) {
		return api.ErrArg
	}
	if slices.ContainsFunc(ahead, func(rule api.Rule) bool { return rule.Name == name }) {
		return api.ErrTwice
	}
	return api.OK
}

// The longest name that a rule may have.
const maxName = 8

func isName(text string) bool {
	if text == "" || len(text) > maxName {
		return false
	}
	for i := range len(text) {
		if !ascii.IsLower(text[i]) {
			return false
		}
	}
	return true
}
