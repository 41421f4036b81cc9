package extract

import (
	"strings"

	"yarrow/ascii"
	"yarrow/scan"
)

// Template is what is told of a stretch, in place of it.
type Template []part

// part is the stretch of a group (of 0: all that matched), or a byte, if its group is noGroup.
type part struct {
	group int
	plain byte
}

const noGroup = -1

// ParseTemplate reads a template for a pattern of so many groups. It gives up by panic, with a scan.Fault, if the text is none.
func ParseTemplate(text string, groups int) Template {
	r := scan.New(text)
	var parts Template
	for {
		if _, some := r.Peek(); !some {
			return parts
		}
		parts = append(parts, parsePart(&r, groups))
	}
}

func parsePart(r *scan.Reader, groups int) part {
	if !r.Skip('\\') {
		return part{noGroup, r.Take(func(byte) bool { return true })}
	}
	switch {
	case r.Skip('n'):
		return part{noGroup, '\n'}
	case r.Skip('\\'):
		return part{noGroup, '\\'}
	}
	digit := r.Take(func(b byte) bool { return ascii.IsDigit(b) && int(b-'0') <= groups })
	return part{group: int(digit - '0')}
}

// Fill tells what a template stands for, by the stretches that were found in a line.
func (t Template) Fill(line string, found []int) string {
	var out strings.Builder
	for _, one := range t {
		if one.group == noGroup {
			out.WriteByte(one.plain)
			continue
		}
		// Both are -1 for a group that did not match.
		if begin, end := found[2*one.group], found[2*one.group+1]; begin >= 0 {
			out.WriteString(line[begin:end])
		}
	}
	return out.String()
}
