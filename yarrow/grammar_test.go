package yarrow

import "strings"

// The document's grammar once more, as it is written there: each rule tells all the spots at which it can end. Slow, and made in another way than the program, so that the two can be held against each other.

// spot is how far a rule came, and how many groups there were by then.
type spot struct{ place, groups int }

type rule func(text string, from spot) []spot

func join(rules ...rule) rule {
	return func(text string, from spot) []spot {
		ends := []spot{from}
		for _, r := range rules {
			var next []spot
			for _, e := range ends {
				next = append(next, r(text, e)...)
			}
			ends = next
		}
		return ends
	}
}

func either(rules ...rule) rule {
	return func(text string, from spot) []spot {
		var ends []spot
		for _, r := range rules {
			ends = append(ends, r(text, from)...)
		}
		return ends
	}
}

func perhaps(r rule) rule { return either(join(), r) }

func many(r rule) rule {
	return func(text string, from spot) []spot {
		ends := []spot{from}
		for i := 0; i < len(ends); i++ {
			ends = append(ends, r(text, ends[i])...)
		}
		return ends
	}
}

func word(w string) rule {
	return func(text string, from spot) []spot {
		if !strings.HasPrefix(text[from.place:], w) {
			return nil
		}
		return []spot{{from.place + len(w), from.groups}}
	}
}

func oneOf(may func(b byte) bool) rule {
	return func(text string, from spot) []spot {
		if from.place == len(text) || !may(text[from.place]) {
			return nil
		}
		return []spot{{from.place + 1, from.groups}}
	}
}

func among(bytes string) rule {
	return oneOf(func(b byte) bool { return strings.IndexByte(bytes, b) >= 0 })
}

func notAmong(bytes string) rule {
	return oneOf(func(b byte) bool { return strings.IndexByte(bytes, b) < 0 })
}

const (
	digits  = "0123456789"
	letters = "abcdefghijklmnopqrstuvwxyzABCDEFGHIJKLMNOPQRSTUVWXYZ"
)

var (
	hexRule     = among("0123456789abcdef")
	escapedRule = either(join(word(`\`), notAmong(letters+digits)), join(word(`\x`), hexRule, hexRule))
	innerRule   = either(notAmong(`\[]-^`), escapedRule)
	classRule   = either(word("digit"), word("lower"), word("upper"), word("alpha"), word("alnum"), word("space"), word("punct"))
	rangeRule   = either(innerRule, twoInners, join(word("[:"), classRule, word(":]")))
	setRule     = join(word("["), perhaps(word("^")), rangeRule, many(rangeRule), word("]"))
	numberRule  = join(among(digits), many(among(digits)))
	patternRule = join(perhaps(word("^")), waysRule(0), perhaps(word("$")))
)

// held tells the byte that an inner stands for.
func held(inner string) byte {
	if len(inner) == 4 {
		const hex = "0123456789abcdef"
		return byte(strings.IndexByte(hex, inner[2])*16 + strings.IndexByte(hex, inner[3]))
	}
	return inner[len(inner)-1]
}

func twoInners(text string, from spot) []spot {
	var ends []spot
	for _, first := range innerRule(text, from) {
		for _, dash := range word("-")(text, first) {
			for _, second := range innerRule(text, dash) {
				if held(text[from.place:first.place]) <= held(text[dash.place:second.place]) {
					ends = append(ends, second)
				}
			}
		}
	}
	return ends
}

// numberOf tells a number's value, or 6 for all that are too great.
func numberOf(text string) int {
	text = strings.TrimLeft(text, "0")
	switch {
	case text == "":
		return 0
	case len(text) == 1:
		return min(int(text[0]-'0'), 6)
	}
	return 6
}

func repeatRule(text string, from spot) []spot {
	ends := among("*+?")(text, from)
	for _, first := range join(word("{"), numberRule)(text, from) {
		least := numberOf(text[from.place+1 : first.place])
		if least > 5 {
			continue
		}
		ends = append(ends, either(word("}"), word(",}"))(text, first)...)
		for _, comma := range word(",")(text, first) {
			for _, second := range numberRule(text, comma) {
				if most := numberOf(text[comma.place:second.place]); least <= most && most <= 5 {
					ends = append(ends, word("}")(text, second)...)
				}
			}
		}
	}
	return ends
}

func groupRule(open int) rule {
	if open == 6 {
		return either()
	}
	inside := join(word("("), waysRule(open+1), word(")"))
	return func(text string, from spot) []spot {
		if from.groups == 9 {
			return nil
		}
		return inside(text, spot{from.place, from.groups + 1})
	}
}

func waysRule(open int) rule {
	single := either(notAmong(`\^$.|()[*+?{`), word("."), escapedRule, setRule, groupRule(open))
	way := many(join(single, perhaps(repeatRule)))
	return join(way, many(join(word("|"), way)))
}

func isPattern(text string) bool {
	for _, end := range patternRule(text, spot{}) {
		if end.place == len(text) {
			return true
		}
	}
	return false
}

// endings are what can be put behind the beginning of a pattern so that nothing but brackets is left open, whatever it broke off in.
func endings() []string {
	inSet := []string{"]", "a]", "ff]", "f]", "xff]", "\xff]"}
	for _, class := range []string{"digit", "lower", "upper", "alpha", "alnum", "space", "punct"} {
		for i := range class {
			inSet = append(inSet, class[i:]+":]]")
		}
	}
	inSet = append(inSet, ":digit:]]", ":]]", "]]")
	return append(inSet, "", "}", "5}", "f", "ff", "xff")
}

func beginsPattern(text string) bool {
	for _, ending := range endings() {
		for open := range 7 {
			if isPattern(text + ending + strings.Repeat(")", open)) {
				return true
			}
		}
	}
	return false
}

// wrongPlace is P3's place, word for word.
func wrongPlace(text string) int {
	for i := range len(text) {
		if !beginsPattern(text[:i+1]) {
			return i
		}
	}
	return len(text)
}
