package scan

import "testing"

// failing tells the place at which a reader gives up, or -1.
func failing(do func()) (place int) {
	defer func() {
		if fault, gaveUp := recover().(Fault); gaveUp {
			place = fault.Place
		}
	}()
	do()
	return -1
}

func TestReaderTakesAndGivesUp(t *testing.T) {
	r := New("ab")
	if r.Skip('b') || !r.Skip('a') || r.Ahead('a') || !r.Ahead('b') {
		t.Error("the reader is not where it should be")
	}
	none := func(byte) bool { return false }
	for name, do := range map[string]func(){"Take": func() { r.Take(none) }, "Expect": func() { r.Expect('a') }, "End": r.End, "Fail": r.Fail} {
		if place := failing(do); place != 1 {
			t.Errorf("%s gives up at %d, want 1", name, place)
		}
	}
	if b := r.Take(func(b byte) bool { return b == 'b' }); b != 'b' {
		t.Errorf("Take = %q", b)
	}
	if place := failing(r.End); place != -1 {
		t.Errorf("End gives up at %d where nothing is ahead", place)
	}
	if place := failing(func() { r.Take(func(byte) bool { return true }) }); place != 2 {
		t.Errorf("Take gives up at %d at the end, want 2", place)
	}
	if b, some := r.Peek(); b != 0 || some || r.Ahead(0) || r.Skip(0) {
		t.Error("the reader sees a byte behind the end")
	}
}
