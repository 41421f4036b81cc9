// Package tokens takes a text apart by rules.
package tokens

import (
	"slices"
	"strings"

	"yarrow/api"
	"yarrow/match"
	"yarrow/syntax"
)

// Rule is a rule whose pattern has been read.
type Rule struct {
	Pattern syntax.Pattern
	Skip    bool
}

// Split goes through a text of at most api.MaxText bytes and tells its tokens, and the place where no rule goes on.
func Split(rules []Rule, text string) ([]api.Token, int) {
	var matchers []match.Matcher
	for _, rule := range rules {
		matchers = append(matchers, match.New(rule.Pattern, text))
	}
	var list []api.Token
	from := 0
	for from < len(text) {
		rule, to := longest(matchers, from, len(text))
		if to == from {
			break
		}
		if !rules[rule].Skip {
			line, column := position(text[:from])
			list = append(list, api.Token{Rule: rule, From: from, To: to, Line: line, Column: column})
		}
		from = to
	}
	return list, from
}

// longest tells the first rule that matches the longest stretch from a place on, and where that ends. If it ends where it begins, no rule matches.
func longest(matchers []match.Matcher, from, most int) (rule, to int) {
	for to = most; to > from; to-- {
		rule = slices.IndexFunc(matchers, func(m match.Matcher) bool { return m.Can(from, to) })
		if rule >= 0 {
			return rule, to
		}
	}
	return 0, from
}

// position tells the line and column of what stands behind a text.
func position(ahead string) (line, column int) {
	// Where there is no newline, LastIndexByte answers -1: so the bytes count from the beginning.
	return strings.Count(ahead, "\n") + 1, len(ahead) - strings.LastIndexByte(ahead, '\n')
}
