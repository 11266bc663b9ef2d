package natural

import "schisma/api"

// attempt returns what f returns, or the error that f raised by a panic.
func attempt[T any](f func() T) (result T, wrong api.Errno) {
	defer func() {
		raised := recover()
		if raised == nil {
			return
		}
		e, ok := raised.(api.Errno)
		if !ok {
			// Only error codes are raised here. Should another panic ever
			// occur, the callers are still owed an error instead of it.
			e = api.ErrArg
		}
		wrong = e
	}()
	return f(), api.OK
}

// require raises ErrArg unless all of numbers are natural numbers.
func require(numbers ...api.Nat) {
	for _, a := range numbers {
		if !Valid(a) {
			panic(api.ErrArg)
		}
	}
}

// fit returns the natural number that limbs make, and raises ErrLimit if it has too many of them.
func fit(limbs []uint32) api.Nat {
	a := trim(limbs)
	if len(a) > api.MaxLimbs {
		panic(api.ErrLimit)
	}
	return a
}

// trim cuts off the zeros at the end of limbs. The capacity goes with them, so
// that whoever appends to a result does not write into memory behind it.
func trim(limbs []uint32) api.Nat {
	n := len(limbs)
	for n > 0 && limbs[n-1] == 0 {
		n--
	}
	return limbs[:n:n]
}
