package match

import (
	"yarrow/syntax"
	"yarrow/tree"
)

// Fits tells whether a tree can be put together by a pattern, be it the one that is meant or not.
func Fits(pattern syntax.Pattern, t tree.Tree) bool { return waysFit(pattern.Ways, t) }

func waysFit(ways []syntax.Way, t tree.Tree) bool {
	if len(ways) == 1 {
		return wayFits(ways[0], t)
	}
	return t.Kind == tree.Choice && t.Number < len(ways) && wayFits(ways[t.Number], t.Inside[0])
}

func wayFits(way syntax.Way, t tree.Tree) bool {
	switch len(way) {
	case 0:
		return t.Kind == tree.Nothing
	case 1:
		return pieceFits(way[0], t)
	}
	if t.Kind != tree.Series || len(t.Inside) != len(way) {
		return false
	}
	for i, piece := range way {
		if !pieceFits(piece, t.Inside[i]) {
			return false
		}
	}
	return true
}

func pieceFits(piece syntax.Piece, t tree.Tree) bool {
	if !piece.Repeat.On {
		return singleFits(piece.Single, t)
	}
	if t.Kind != tree.Repeat || !oftenEnough(piece.Repeat, len(t.Inside)) {
		return false
	}
	for _, time := range t.Inside {
		if !singleFits(piece.Single, time) {
			return false
		}
	}
	return true
}

func oftenEnough(repeat syntax.Repeat, times int) bool {
	return repeat.Least <= times && (repeat.Most == syntax.Any || times <= repeat.Most)
}

func singleFits(single syntax.Single, t tree.Tree) bool {
	if single.Group == 0 {
		return t.Kind == tree.Byte && single.Set[t.Number]
	}
	return t.Kind == tree.Group && t.Number == single.Group && waysFit(single.Ways, t.Inside[0])
}
