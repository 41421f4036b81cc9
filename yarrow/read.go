package yarrow

import (
	"yarrow/api"
	"yarrow/scan"
	"yarrow/syntax"
)

// read takes a pattern in, as every call that has one must (P3). The place is the one that Plain tells.
func read(pattern string) (parsed syntax.Pattern, place int, errno api.Errno) {
	if len(pattern) > api.MaxPattern {
		return syntax.Pattern{}, 0, api.ErrLong
	}
	defer func() {
		switch caught := recover().(type) {
		case nil:
		case scan.Fault:
			place, errno = caught.Place, api.ErrPattern
		default:
			// A fault of the program itself must not pass for one of the pattern.
			panic(caught)
		}
	}()
	return syntax.Parse(pattern), 0, api.OK
}
