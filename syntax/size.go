package syntax

// AnySize tells the pattern whose singles hold a letter in both sizes if those of p hold it in one.
func (p Pattern) AnySize() Pattern {
	p.Ways = waysOfAnySize(p.Ways)
	return p
}

func waysOfAnySize(ways []Way) []Way {
	var made []Way
	for _, way := range ways {
		made = append(made, wayOfAnySize(way))
	}
	return made
}

func wayOfAnySize(way Way) Way {
	var made Way
	for _, piece := range way {
		piece.Single.Ways = waysOfAnySize(piece.Single.Ways)
		piece.Single.Set = piece.Single.Set.AnySize()
		made = append(made, piece)
	}
	return made
}
