// Package byteset has sets of bytes, as the singles of a pattern hold them.
package byteset

// Set has true at each byte that it holds.
type Set [256]bool

// Stretch is the bytes from First to Last, both among them.
type Stretch struct{ First, Last byte }

// One holds one byte alone.
func One(b byte) Set {
	var s Set
	s[b] = true
	return s
}

// All holds every byte.
func All() Set {
	return Set{}.Others()
}

// Others holds what s does not.
func (s Set) Others() Set {
	for b := range s {
		s[b] = !s[b]
	}
	return s
}

// AddRange adds the bytes from first to last.
func (s *Set) AddRange(first, last byte) {
	// An int, because a byte would wrap round behind 255 and never end.
	for b := int(first); b <= int(last); b++ {
		s[b] = true
	}
}

// AnySize holds what s does, and each letter of which s holds the other size.
func (s Set) AnySize() Set {
	for i := range 26 {
		small, great := 'a'+i, 'A'+i
		either := s[small] || s[great]
		s[small], s[great] = either, either
	}
	return s
}

// Stretches tells the set as rising stretches, as few as there can be: no two of them touch.
func (s Set) Stretches() []Stretch {
	var all []Stretch
	for b, held := range s {
		switch {
		case !held:
		case b > 0 && s[b-1]:
			all[len(all)-1].Last = byte(b)
		default:
			all = append(all, Stretch{byte(b), byte(b)})
		}
	}
	return all
}
