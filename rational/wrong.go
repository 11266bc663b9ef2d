package rational

import "schisma/api"

// attempt returns what f returns, or the error that f raised by a panic.
func attempt[T any](f func() T) (result T, wrong api.Errno) {
	defer func() {
		raised := recover()
		if raised == nil {
			return
		}
		e, ok := raised.(api.Errno)
		if !ok {
			// Only error codes are raised here. Should another panic ever
			// occur, the callers are still owed an error instead of it.
			e = api.ErrArg
		}
		wrong = e
	}()
	return f(), api.OK
}

// require raises ErrArg unless all of list are numbers.
func require(list ...api.Rat) {
	for _, a := range list {
		if !Valid(a) {
			panic(api.ErrArg)
		}
	}
}
