// Package reach tells which stretches of a text something matches, as places that can be come to from other places: from where a stretch begins to where it ends.
package reach

import "yarrow/api"

// Places is a set of places of a text, a bit for each: a text of api.MaxText bytes has one more place than bytes.
type Places [api.MaxText/64 + 1]uint64

// Has tells whether a place is among them.
func (p Places) Has(place int) bool { return p[place/64]>>(place%64)&1 == 1 }

// Add adds a place.
func (p *Places) Add(place int) { p[place/64] |= 1 << (place % 64) }

// AddAll adds the places of another set.
func (p *Places) AddAll(others Places) {
	for i := range p {
		p[i] |= others[i]
	}
}

// Map has, for each place of a text, those where a stretch that begins there can end. None of them is ahead of it.
type Map []Places

// None has no stretch of a text of that length.
func None(length int) Map { return make(Map, length+1) }

// Empty has the empty stretches alone.
func Empty(length int) Map {
	m := None(length)
	for from := range m {
		m[from].Add(from)
	}
	return m
}

// Or has the stretches of both.
func (m Map) Or(other Map) Map {
	both := make(Map, len(m))
	for from := range m {
		both[from] = m[from]
		both[from].AddAll(other[from])
	}
	return both
}

// Then has the stretches that are one of m and, behind it, one of next.
func (m Map) Then(next Map) Map {
	joined := make(Map, len(m))
	for from := range m {
		for middle := from; middle < len(m); middle++ {
			if m[from].Has(middle) {
				joined[from].AddAll(next[middle])
			}
		}
	}
	return joined
}

// AnyTimes has the stretches that are any number of those of m, one behind the other.
func (m Map) AnyTimes() Map {
	all := Empty(len(m) - 1)
	// From the last place on, so that what can be come to from a later place is known.
	for from := len(m) - 1; from >= 0; from-- {
		for middle := from + 1; middle < len(m); middle++ {
			if m[from].Has(middle) {
				all[from].AddAll(all[middle])
			}
		}
	}
	return all
}

// Longest tells where the longest stretch of m ends that begins at from and behind which one of next ends at to. There must be one.
func (m Map) Longest(next Map, from, to int) int {
	middle := to
	for middle > from && !(m[from].Has(middle) && next[middle].Has(to)) {
		middle--
	}
	return middle
}
