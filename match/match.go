// Package match tells how a text matches a pattern.
package match

import (
	"yarrow/byteset"
	"yarrow/reach"
	"yarrow/syntax"
)

// Matcher knows, for each part of a pattern, which stretches of a text it can match. So no choice is ever taken back when a tree is put together.
type Matcher struct {
	pattern syntax.Pattern
	text    string
	whole   ways
}

// The parts of a pattern, as in package syntax, with the stretches that each can match.
type (
	ways struct {
		all []way
		can reach.Map
	}
	way struct {
		pieces []piece
		rests  []reach.Map // what the pieces from each one on can match together, and at last what no pieces can
	}
	piece struct {
		single single
		repeat syntax.Repeat
		rests  []reach.Map // what the times that are left can match, by how many are done; the last holds for all above too
	}
	single struct {
		group  int
		inside ways
		can    reach.Map
	}
)

// New holds a pattern against a text of at most api.MaxText bytes.
func New(pattern syntax.Pattern, text string) Matcher {
	return Matcher{pattern, text, newWays(pattern.Ways, text)}
}

// Can tells whether the pattern matches the stretch. The marks are not looked at.
func (m Matcher) Can(from, to int) bool { return m.whole.can[from].Has(to) }

func newWays(of []syntax.Way, text string) ways {
	made := ways{can: reach.None(len(text))}
	for _, one := range of {
		way := newWay(one, text)
		made.all = append(made.all, way)
		made.can = made.can.Or(way.rests[0])
	}
	return made
}

func newWay(of syntax.Way, text string) way {
	made := way{make([]piece, len(of)), make([]reach.Map, len(of)+1)}
	made.rests[len(of)] = reach.Empty(len(text))
	for i := len(of) - 1; i >= 0; i-- {
		made.pieces[i] = newPiece(of[i], text)
		made.rests[i] = made.pieces[i].can().Then(made.rests[i+1])
	}
	return made
}

func newPiece(of syntax.Piece, text string) piece {
	made := piece{single: newSingle(of.Single, text), repeat: of.Repeat}
	if of.Repeat.On {
		made.rests = restsOf(of.Repeat, made.single.can)
	}
	return made
}

func (p piece) can() reach.Map {
	if p.repeat.On {
		return p.rests[0]
	}
	return p.single.can
}

// rest is what the times that are left can match when so many are done.
func (p piece) rest(done int) reach.Map { return p.rests[min(done, len(p.rests)-1)] }

func restsOf(repeat syntax.Repeat, once reach.Map) []reach.Map {
	nothing := reach.Empty(len(once) - 1)
	steps, last := repeat.Most, nothing
	if repeat.Most == syntax.Any {
		steps, last = repeat.Least, once.AnyTimes()
	}
	rests := make([]reach.Map, steps+1)
	rests[steps] = last
	for done := steps - 1; done >= 0; done-- {
		rests[done] = once.Then(rests[done+1])
		if done >= repeat.Least {
			rests[done] = rests[done].Or(nothing)
		}
	}
	return rests
}

func newSingle(of syntax.Single, text string) single {
	if of.Group == 0 {
		return single{can: bytesOf(of.Set, text)}
	}
	inside := newWays(of.Ways, text)
	return single{of.Group, inside, inside.can}
}

func bytesOf(set byteset.Set, text string) reach.Map {
	can := reach.None(len(text))
	for i := range len(text) {
		if set[text[i]] {
			can[i].Add(i + 1)
		}
	}
	return can
}
