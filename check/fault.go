package check

import "cocoon/api"

// fault is what a look panics with: whatever is being looked at, all of it ends at once.
type fault struct {
	err api.Errno
	at  int
}

// caught tells by which fault a look ended; the zero one, if it came to its end.
func caught(look func()) (f fault) {
	defer func() {
		switch x := recover().(type) {
		case nil:
		case fault:
			f = x
		default: // it is no source's fault
			panic(x)
		}
	}()
	look()
	return fault{}
}
