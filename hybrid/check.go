package hybrid

import "ductility/api"

// firstOf returns the first of several errors, and OK if there is none.
func firstOf(errors ...api.Errno) api.Errno {
	for _, e := range errors {
		if e != api.OK {
			return e
		}
	}
	return api.OK
}

// when returns an error if it applies, otherwise OK.
func when(applies bool, e api.Errno) api.Errno {
	if applies {
		return e
	}
	return api.OK
}

// checkItems returns the first error of the items, and the index of its item.
func checkItems[T any](items []T, errorOf func(i int, item T) api.Errno) (int, api.Errno) {
	for i, item := range items {
		if e := errorOf(i, item); e != api.OK {
			return i, e
		}
	}
	return 0, api.OK
}

// areWithin tells whether all of some numbers lie in a range.
func areWithin(lo, hi int, numbers ...int) bool {
	for _, n := range numbers {
		if n < lo || n > hi {
			return false
		}
	}
	return true
}

// isBeyond tells whether one of the numbers is greater in size than a limit.
func isBeyond(limit int, numbers ...int) bool {
	// The size of the smallest int is no int: its negative would not do here.
	return !areWithin(-limit, limit, numbers...)
}

// clockError returns the error of a clock.
func clockError(y api.HybridClock) api.Errno {
	isInside := areWithin(0, api.MaxHybridWait, y.Deadline) && areWithin(0, api.MaxTick, y.Until)
	return when(!isInside, api.ErrRange)
}

// partsError returns the error of a displacement that is given.
func partsError(moved api.Frac) api.Errno {
	return firstOf(
		when(moved.Den <= 0 || divisorOf(moved.Den, moved.Num) != 1, api.ErrForm),
		when(isBeyond(api.MaxPart, moved.Num, moved.Den), api.ErrRange))
}

// largeError returns the error of displacements that are computed.
func largeError(moved []api.Frac) api.Errno {
	_, e := checkItems(moved, func(_ int, part api.Frac) api.Errno {
		return when(isBeyond(api.MaxPart, part.Num, part.Den), api.ErrLarge)
	})
	return e
}
