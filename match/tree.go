package match

import (
	"slices"

	"yarrow/tree"
)

// Tree tells how the pattern matches a stretch that it can match: the one tree that is meant.
func (m Matcher) Tree(from, to int) tree.Tree {
	return m.treeOfWays(m.whole, from, to)
}

func (m Matcher) treeOfWays(w ways, from, to int) tree.Tree {
	place := slices.IndexFunc(w.all, func(one way) bool { return one.rests[0][from].Has(to) })
	inside := m.treeOfWay(w.all[place], from, to)
	if len(w.all) == 1 {
		return inside
	}
	return tree.Tree{Kind: tree.Choice, Number: place, Inside: []tree.Tree{inside}}
}

func (m Matcher) treeOfWay(w way, from, to int) tree.Tree {
	switch len(w.pieces) {
	case 0:
		return tree.Tree{Kind: tree.Nothing}
	case 1:
		return m.treeOfPiece(w.pieces[0], from, to)
	}
	var parts []tree.Tree
	for i, one := range w.pieces {
		end := one.can().Longest(w.rests[i+1], from, to)
		parts = append(parts, m.treeOfPiece(one, from, end))
		from = end
	}
	return tree.Tree{Kind: tree.Series, Inside: parts}
}

func (m Matcher) treeOfPiece(p piece, from, to int) tree.Tree {
	if !p.repeat.On {
		return m.treeOfSingle(p.single, from, to)
	}
	var times []tree.Tree
	for from < to {
		// Never an empty one: what a later time can match of the stretch, this one could have.
		end := p.single.can.Longest(p.rest(len(times)+1), from, to)
		times = append(times, m.treeOfSingle(p.single, from, end))
		from = end
	}
	if owed := p.repeat.Least - len(times); owed > 0 {
		// All that are left are the same. Worked out once, or repeats inside repeats would take their time for each time of each.
		empty := m.treeOfSingle(p.single, from, from)
		times = append(times, slices.Repeat([]tree.Tree{empty}, owed)...)
	}
	return tree.Tree{Kind: tree.Repeat, Inside: times}
}

func (m Matcher) treeOfSingle(s single, from, to int) tree.Tree {
	if s.group == 0 {
		return tree.Tree{Kind: tree.Byte, Number: int(m.text[from])}
	}
	inside := m.treeOfWays(s.inside, from, to)
	return tree.Tree{Kind: tree.Group, Number: s.group, Inside: []tree.Tree{inside}}
}
