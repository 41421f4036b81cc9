// Package syntax reads patterns and writes them.
package syntax

import "yarrow/byteset"

// Any is the Most of a repeat that has no upper bound.
const Any = -1

// Pattern is a pattern that has been read.
type Pattern struct {
	FromBegin, ToEnd bool // the marks ^ and $
	Ways             []Way
	Groups           int
}

// Way is pieces, one behind the other.
type Way []Piece

// Piece is a single and how often it stands there.
type Piece struct {
	Single Single
	Repeat Repeat
}

// Single is a group, if it has a number from 1 on, or else a set of bytes.
type Single struct {
	Group int
	Ways  []Way
	Set   byteset.Set
}

// Repeat tells how often. It has On, because a piece that is repeated just once is not the same as one that is not.
type Repeat struct {
	On          bool
	Least, Most int
}
