// Package tree has the trees that tell how a text matches. It reads and writes them.
package tree

// Kind is the letter by which a part of a tree is written.
type Kind byte

const (
	Nothing Kind = 'e' // a way of no pieces
	Byte    Kind = 'b'
	Group   Kind = 'g'
	Repeat  Kind = 'r'
	Series  Kind = 's' // a way of several pieces
	Choice  Kind = 'a' // one of several ways
)

// Tree is a tree, or a part of one. Parts that are the same may share their memory: a tree is not written into.
type Tree struct {
	Kind   Kind
	Number int // the byte, the number of a group, or the place of a way; else 0
	Inside []Tree
}

// Flat tells the bytes of a tree, in order.
func (t Tree) Flat() string { return string(t.addBytes(nil)) }

func (t Tree) addBytes(flat []byte) []byte {
	if t.Kind == Byte {
		return append(flat, byte(t.Number))
	}
	for _, part := range t.Inside {
		flat = part.addBytes(flat)
	}
	return flat
}
