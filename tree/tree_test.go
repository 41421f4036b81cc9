package tree

import (
	"testing"

	"yarrow/api"
	"yarrow/scan"
)

// gaveUp tells what work gave up with.
func gaveUp(work func()) (with any) {
	defer func() { with = recover() }()
	work()
	return nil
}

func TestReadAndWritten(t *testing.T) {
	for text, flat := range map[string]string{
		"e": "", "b61": "a", "(r)": "", "(r e e)": "", "(g9 (a59 (s b61 (r b62 b63))))": "abc", "(s (a0 e) (a10 bff) (g1 b00))": "\xff\x00",
	} {
		read := Parse(text)
		if read.Text() != text || read.Flat() != flat {
			t.Errorf("%q is read, and written as %q with the bytes %q", text, read.Text(), read.Flat())
		}
	}
}

func TestParseGivesUp(t *testing.T) {
	for text, place := range map[string]int{"": 0, "b6": 2, "(s e)": 4, "(a60 e)": 3, "e)": 1} {
		if got := gaveUp(func() { Parse(text) }); got != (scan.Fault{Place: place}) {
			t.Errorf("reading %q gives up with %v, want the place %d", text, got, place)
		}
	}
}

// Parts share their memory, so that a tree that would have 5 to the 40th bytes is at hand.
func TestTextGivesUpAtOnce(t *testing.T) {
	great := Tree{Kind: Nothing}
	for range 40 {
		great = Tree{Kind: Repeat, Inside: []Tree{great, great, great, great, great}}
	}
	if got := gaveUp(func() { great.Text() }); got != (TooLong{}) {
		t.Errorf("a tree that is far too long gives up with %v", got)
	}
}

func TestTextOfTheLongest(t *testing.T) {
	// Three bytes for (r), and four for each thing in it: 19995. A group around it has five more, the way 10 six.
	wide := Tree{Kind: Repeat}
	for range 4998 {
		wide.Inside = append(wide.Inside, Tree{Kind: Byte})
	}
	right := Tree{Kind: Group, Number: 1, Inside: []Tree{wide}}
	if got := len(right.Text()); got != api.MaxTree {
		t.Errorf("the longest tree has %d bytes", got)
	}
	wrong := Tree{Kind: Choice, Number: 10, Inside: []Tree{wide}}
	if got := gaveUp(func() { wrong.Text() }); got != (TooLong{}) {
		t.Errorf("a tree of one byte too many gives up with %v", got)
	}
}
