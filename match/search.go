package match

import (
	"slices"

	"yarrow/tree"
)

// Search tells the stretches of the first and then longest match that begins at from or behind it and is where the marks say, or nil.
func (m Matcher) Search(from int) []int {
	for begin := from; begin <= len(m.text); begin++ {
		for end := len(m.text); end >= begin; end-- {
			if m.Can(begin, end) && m.marksAllow(begin, end) {
				return m.stretches(begin, end)
			}
		}
	}
	return nil
}

// Whole tells the stretches of the match that is the whole text, or nil. It is always where the marks say.
func (m Matcher) Whole() []int {
	if !m.Can(0, len(m.text)) {
		return nil
	}
	return m.stretches(0, len(m.text))
}

func (m Matcher) marksAllow(begin, end int) bool {
	return (begin == 0 || !m.pattern.FromBegin) && (end == len(m.text) || !m.pattern.ToEnd)
}

// stretches tells a stretch that the pattern can match, as beginning and end, and behind it for each group the one that it matched last (-1, -1: none).
func (m Matcher) stretches(begin, end int) []int {
	told := slices.Repeat([]int{-1}, 2+2*m.pattern.Groups)
	told[0], told[1] = begin, end
	noteGroups(told, m.Tree(begin, end), begin)
	return told
}

// noteGroups writes the stretches of the groups of a tree down, later ones over those ahead, and tells where the tree ends.
func noteGroups(told []int, t tree.Tree, begin int) int {
	if t.Kind == tree.Byte {
		return begin + 1
	}
	end := begin
	for _, part := range t.Inside {
		partBegin := end
		end = noteGroups(told, part, partBegin)
		if t.Kind == tree.Repeat && end == partBegin {
			// The times behind an empty one are all the same as it, and repeats inside repeats could have very many.
			break
		}
	}
	if t.Kind == tree.Group {
		told[2*t.Number], told[2*t.Number+1] = begin, end
	}
	return end
}
