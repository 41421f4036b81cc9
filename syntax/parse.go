package syntax

import (
	"strings"

	"yarrow/api"
	"yarrow/ascii"
	"yarrow/byteset"
	"yarrow/scan"
)

// parser takes a byte only if some pattern goes on with it, so the place where it gives up is the one to be told.
type parser struct {
	scan.Reader
	open, groups int
}

// Parse reads a pattern. It gives up by panic, with a scan.Fault, if the text is none.
func Parse(text string) Pattern {
	p := parser{Reader: scan.New(text)}
	var read Pattern
	read.FromBegin = p.Skip('^')
	read.Ways = p.ways()
	read.ToEnd = p.Skip('$')
	p.End()
	read.Groups = p.groups
	return read
}

func (p *parser) ways() []Way {
	all := []Way{p.way()}
	for p.Skip('|') {
		all = append(all, p.way())
	}
	return all
}

func (p *parser) way() Way {
	var pieces Way
	for p.singleAhead() {
		single := p.single()
		pieces = append(pieces, Piece{single, p.repeat()})
	}
	return pieces
}

func (p *parser) singleAhead() bool {
	b, some := p.Peek()
	return some && strings.IndexByte("^$|)*+?{", b) < 0
}

func (p *parser) single() Single {
	switch b, _ := p.Peek(); b {
	case '(':
		return p.group()
	case '[':
		return Single{Set: p.set()}
	case '\\':
		return Single{Set: byteset.One(p.escaped(0))}
	case '.':
		p.Expect('.')
		return Single{Set: byteset.All()}
	default:
		p.Expect(b)
		return Single{Set: byteset.One(b)}
	}
}

func (p *parser) group() Single {
	if p.open == api.MaxDepth || p.groups == api.MaxGroups {
		p.Fail()
	}
	p.Expect('(')
	p.open++
	p.groups++
	// The number is settled here: groups inside this one count on.
	number := p.groups
	inside := p.ways()
	p.Expect(')')
	p.open--
	return Single{Group: number, Ways: inside}
}

// escaped reads an escaped that stands for a byte not below least.
func (p *parser) escaped(least byte) byte {
	p.Expect('\\')
	if p.Skip('x') {
		return p.hexPair(least)
	}
	return p.Take(func(b byte) bool { return !ascii.IsAlnum(b) && b >= least })
}

func (p *parser) hexPair(least byte) byte {
	// The first digit may stand if the greatest second one would reach least.
	high := ascii.HexValue(p.Take(func(b byte) bool { return ascii.IsHex(b) && ascii.HexValue(b)<<4|15 >= least }))
	low := ascii.HexValue(p.Take(func(b byte) bool { return ascii.IsHex(b) && high<<4|ascii.HexValue(b) >= least }))
	return high<<4 | low
}
