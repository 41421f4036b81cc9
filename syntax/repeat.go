package syntax

import (
	"yarrow/api"
	"yarrow/ascii"
)

func (p *parser) repeat() Repeat {
	switch {
	case p.Skip('*'):
		return Repeat{true, 0, Any}
	case p.Skip('+'):
		return Repeat{true, 1, Any}
	case p.Skip('?'):
		return Repeat{true, 0, 1}
	case p.Skip('{'):
		return p.counted()
	}
	return Repeat{}
}

func (p *parser) counted() Repeat {
	least := p.number(0)
	most := least
	if p.Skip(',') {
		most = Any
		if !p.Ahead('}') {
			most = p.number(least)
		}
	}
	p.Expect('}')
	return Repeat{true, least, most}
}

// number reads a number not below least.
func (p *parser) number(least int) int {
	value := p.digit(0, least)
	for p.digitAhead() {
		value = p.digit(value, least)
	}
	// Noughts that no other digit followed: one could have, so the fault is what is ahead now.
	if value < least {
		p.Fail()
	}
	return value
}

// digit puts the digit ahead behind a value. A nought may stand whatever least is, because more digits can follow it.
func (p *parser) digit(value, least int) int {
	grown := func(b byte) int { return value*10 + int(b-'0') }
	return grown(p.Take(func(b byte) bool {
		return ascii.IsDigit(b) && grown(b) <= api.MaxRepeat && (grown(b) == 0 || grown(b) >= least)
	}))
}

func (p *parser) digitAhead() bool {
	b, some := p.Peek()
	return some && ascii.IsDigit(b)
}
