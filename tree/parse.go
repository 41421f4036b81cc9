package tree

import (
	"strings"

	"yarrow/ascii"
	"yarrow/scan"
)

const (
	mostOpen  = 60
	lastPlace = 59
)

// parser takes a byte only if some tree goes on with it, so the place where it gives up is the one to be told.
type parser struct {
	scan.Reader
	open int
}

// Parse reads a tree. It gives up by panic, with a scan.Fault, if the text is none.
func Parse(text string) Tree {
	p := parser{Reader: scan.New(text)}
	read := p.thing()
	p.End()
	return read
}

func (p *parser) thing() Tree {
	switch {
	case p.Skip('e'):
		return Tree{Kind: Nothing}
	case p.Skip('b'):
		return Tree{Kind: Byte, Number: p.hexPair()}
	}
	return p.bracket()
}

func (p *parser) hexPair() int {
	high, low := p.Take(ascii.IsHex), p.Take(ascii.IsHex)
	return int(ascii.HexValue(high)<<4 | ascii.HexValue(low))
}

func (p *parser) bracket() Tree {
	if p.open == mostOpen {
		p.Fail()
	}
	p.Expect('(')
	p.open++
	read := p.opened()
	p.Expect(')')
	p.open--
	return read
}

func (p *parser) opened() Tree {
	kind := Kind(p.Take(func(b byte) bool { return strings.IndexByte("grsa", b) >= 0 }))
	switch kind {
	case Group:
		return Tree{kind, p.groupNumber(), p.things(1, nil)}
	case Choice:
		return Tree{kind, p.wayPlace(), p.things(1, nil)}
	case Series:
		return Tree{kind, 0, p.moreThings(p.things(2, nil))}
	}
	return Tree{kind, 0, p.moreThings(nil)}
}

// things reads this many things behind those that are there.
func (p *parser) things(count int, all []Tree) []Tree {
	for range count {
		p.Expect(' ')
		all = append(all, p.thing())
	}
	return all
}

// moreThings reads all things that follow, behind those that are there.
func (p *parser) moreThings(all []Tree) []Tree {
	for p.Ahead(' ') {
		all = p.things(1, all)
	}
	return all
}

func (p *parser) groupNumber() int {
	return int(p.Take(func(b byte) bool { return ascii.IsDigit(b) && b != '0' }) - '0')
}

func (p *parser) wayPlace() int {
	place := int(p.Take(ascii.IsDigit) - '0')
	for place > 0 && p.growsTo(place) <= lastPlace {
		place = p.growsTo(place)
		p.Take(ascii.IsDigit)
	}
	return place
}

// growsTo tells what the digit ahead makes of a number, or more than there may be if no digit is ahead.
func (p *parser) growsTo(number int) int {
	b, some := p.Peek()
	if !some || !ascii.IsDigit(b) {
		return lastPlace + 1
	}
	return number*10 + int(b-'0')
}
