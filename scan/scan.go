// Package scan reads a text byte by byte, and gives up by panic at the first byte that cannot stand there.
package scan

// Fault is what a Reader gives up with. Its Place is the text's length where the text is only cut short.
type Fault struct{ Place int }

// Reader stands at a place of a text. All ahead of that place is the beginning of something right.
type Reader struct {
	text  string
	place int
}

// New stands at the beginning of a text.
func New(text string) Reader { return Reader{text: text} }

// Fail gives up: what is ahead cannot stand there.
func (r *Reader) Fail() { panic(Fault{r.place}) }

// Peek tells the byte ahead, and whether there is one.
func (r *Reader) Peek() (byte, bool) {
	if r.place == len(r.text) {
		return 0, false
	}
	return r.text[r.place], true
}

// Ahead tells whether the byte ahead is this one.
func (r *Reader) Ahead(wanted byte) bool {
	b, some := r.Peek()
	return some && b == wanted
}

// Skip takes the byte ahead if it is this one, and tells whether it was.
func (r *Reader) Skip(wanted byte) bool {
	if !r.Ahead(wanted) {
		return false
	}
	r.place++
	return true
}

// Expect takes the byte ahead, which must be this one.
func (r *Reader) Expect(wanted byte) {
	if !r.Skip(wanted) {
		r.Fail()
	}
}

// Take takes the byte ahead, which must be one that may stand there.
func (r *Reader) Take(may func(byte) bool) byte {
	b, some := r.Peek()
	if !some || !may(b) {
		r.Fail()
	}
	r.place++
	return b
}

// End gives up if anything is ahead.
func (r *Reader) End() {
	if _, some := r.Peek(); some {
		r.Fail()
	}
}
