package syntax

import (
	"strings"

	"yarrow/byteset"
)

func (p *parser) set() byteset.Set {
	var held byteset.Set
	p.Expect('[')
	others := p.Skip('^')
	p.addRange(&held)
	for !p.Skip(']') {
		p.addRange(&held)
	}
	if others {
		return held.Others()
	}
	return held
}

func (p *parser) addRange(held *byteset.Set) {
	if p.Skip('[') {
		p.Expect(':')
		held.AddClass(p.className())
		p.Expect(':')
		p.Expect(']')
		return
	}
	first := p.inner(0)
	last := first
	if p.Skip('-') {
		last = p.inner(first)
	}
	held.AddRange(first, last)
}

// className ends as soon as it has a name, because none is the beginning of another.
func (p *parser) className() string {
	var name []byte
	for !byteset.IsClass(string(name)) {
		b := p.Take(func(b byte) bool { return byteset.BeginsClass(string(name) + string([]byte{b})) })
		name = append(name, b)
	}
	return string(name)
}

// inner reads an inner that stands for a byte not below least.
func (p *parser) inner(least byte) byte {
	if p.Ahead('\\') {
		return p.escaped(least)
	}
	return p.Take(func(b byte) bool { return strings.IndexByte("[]-^", b) < 0 && b >= least })
}
