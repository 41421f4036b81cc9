package syntax

import (
	"strconv"
	"strings"

	"yarrow/ascii"
	"yarrow/byteset"
)

// Plain writes a pattern in the one way that all patterns which say the same in the same shape have in common.
func (p Pattern) Plain() string {
	var out strings.Builder
	if p.FromBegin {
		out.WriteByte('^')
	}
	writeWays(&out, p.Ways)
	if p.ToEnd {
		out.WriteByte('$')
	}
	return out.String()
}

func writeWays(out *strings.Builder, ways []Way) {
	for i, way := range ways {
		if i > 0 {
			out.WriteByte('|')
		}
		for _, piece := range way {
			writeSingle(out, piece.Single)
			out.WriteString(plainRepeat(piece.Repeat))
		}
	}
}

func writeSingle(out *strings.Builder, single Single) {
	if single.Group == 0 {
		out.WriteString(plainSet(single.Set))
		return
	}
	out.WriteByte('(')
	writeWays(out, single.Ways)
	out.WriteByte(')')
}

func plainSet(set byteset.Set) string {
	stretches := set.Stretches()
	switch {
	case len(stretches) == 0:
		return `[^\x00-\xff]`
	case set == byteset.All():
		return "."
	case len(stretches) == 1 && stretches[0].First == stretches[0].Last:
		return plainByte(stretches[0].First)
	}
	text := "["
	for _, stretch := range stretches {
		text += plainStretch(stretch)
	}
	return text + "]"
}

func plainStretch(stretch byteset.Stretch) string {
	if stretch.First == stretch.Last {
		return plainByte(stretch.First)
	}
	return plainByte(stretch.First) + "-" + plainByte(stretch.Last)
}

func plainByte(b byte) string {
	if ascii.IsAlnum(b) {
		return string([]byte{b})
	}
	return `\x` + ascii.HexPair(b)
}

func plainRepeat(repeat Repeat) string {
	least, most := strconv.Itoa(repeat.Least), strconv.Itoa(repeat.Most)
	switch repeat {
	case Repeat{}:
		return ""
	case Repeat{true, 0, Any}:
		return "*"
	case Repeat{true, 1, Any}:
		return "+"
	case Repeat{true, 0, 1}:
		return "?"
	case Repeat{true, repeat.Least, Any}:
		return "{" + least + ",}"
	case Repeat{true, repeat.Least, repeat.Least}:
		return "{" + least + "}"
	}
	return "{" + least + "," + most + "}"
}
