package model

import "ductility/api"

// firstOf returns the first of several errors, and OK if there is none.
func firstOf(errors ...api.Errno) api.Errno {
	for _, e := range errors {
		if e != api.OK {
			return e
		}
	}
	return api.OK
}

// when returns an error if it applies, otherwise OK.
func when(applies bool, e api.Errno) api.Errno {
	if applies {
		return e
	}
	return api.OK
}

// checkItems returns the first error of the items, and the index of its item.
func checkItems[T any](items []T, errorOf func(i int, item T) api.Errno) (int, api.Errno) {
	for i, item := range items {
		if e := errorOf(i, item); e != api.OK {
			return i, e
		}
	}
	return 0, api.OK
}

// areWithin tells whether all of some numbers lie in a range.
func areWithin(lo, hi int, numbers ...int) bool {
	for _, n := range numbers {
		if n < lo || n > hi {
			return false
		}
	}
	return true
}

// isBeyond tells whether one of the numbers is greater in size than a limit.
func isBeyond(limit int, numbers ...int) bool {
	// The size of the smallest int is no int: its negative would not do here.
	return !areWithin(-limit, limit, numbers...)
}

// countError returns the error of a list that has no items, or too many.
func countError(count, most int) api.Errno {
	return firstOf(when(count == 0, api.ErrShape), when(count > most, api.ErrLarge))
}

// limitError returns the error of numbers one of which is greater in size than a limit.
func limitError(limit int, numbers ...int) api.Errno {
	return when(isBeyond(limit, numbers...), api.ErrRange)
}

// valueError returns the error of a value.
func valueError(value api.Frac) api.Errno {
	return firstOf(when(!isLowest(value), api.ErrForm), limitError(api.MaxPart, value.Num, value.Den))
}

// massesError returns the error of masses of floors of the full structure, and of the model's own ones.
func massesError(full, own []int) api.Errno {
	count := len(full)
	e := firstOf(when(len(own) != count, api.ErrShape), when(count > api.MaxModelFloors, api.ErrLarge))
	if e != api.OK {
		return e
	}
	_, e = checkItems(full, func(i, mass int) api.Errno {
		return when(!areWithin(0, api.MaxModelMass, mass, own[i]), api.ErrRange)
	})
	return e
}

// placeError returns the error of a position.
func placeError(at int) api.Errno {
	return limitError(api.MaxModelPlace, at)
}

// groundError returns the error of an acceleration.
func groundError(ground int) api.Errno {
	return limitError(api.MaxModelGround, ground)
}

// motionError returns the error of a motion.
func motionError(motion []int) api.Errno {
	return firstOf(when(len(motion) > api.MaxModelSteps, api.ErrLarge), limitError(api.MaxModelGround, motion...))
}
