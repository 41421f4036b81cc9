package yarrow

import (
	"yarrow/api"
	"yarrow/tree"
)

// tell writes a tree out, if it is not too long to be told (P5).
func tell(t tree.Tree) (text string, errno api.Errno) {
	defer func() {
		switch caught := recover().(type) {
		case nil:
		case tree.TooLong:
			errno = api.ErrLong
		default:
			panic(caught)
		}
	}()
	return t.Text(), api.OK
}
