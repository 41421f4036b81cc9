package tree

import (
	"strconv"
	"strings"

	"yarrow/api"
	"yarrow/ascii"
)

// TooLong is what Text gives up with.
type TooLong struct{}

// writer gives up as soon as there is too much: a small pattern can have a tree far longer than may be told.
type writer struct{ strings.Builder }

// Text writes a tree. It gives up by panic, with TooLong, if that has more than api.MaxTree bytes.
func (t Tree) Text() string {
	var w writer
	w.tree(t)
	return w.String()
}

func (w *writer) put(text string) {
	if w.Len()+len(text) > api.MaxTree {
		panic(TooLong{})
	}
	w.WriteString(text)
}

func (w *writer) tree(t Tree) {
	switch t.Kind {
	case Nothing:
		w.put("e")
	case Byte:
		w.put("b" + ascii.HexPair(byte(t.Number)))
	case Group:
		w.bracket("(g"+strconv.Itoa(t.Number), t.Inside)
	case Choice:
		w.bracket("(a"+strconv.Itoa(t.Number), t.Inside)
	case Series:
		w.bracket("(s", t.Inside)
	case Repeat:
		w.bracket("(r", t.Inside)
	}
}

func (w *writer) bracket(head string, inside []Tree) {
	w.put(head)
	for _, part := range inside {
		w.put(" ")
		w.tree(part)
	}
	w.put(")")
}
