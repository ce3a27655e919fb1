package modal

import "ductility/api"

// firstOf returns the first of several errors, and OK if there is none.
func firstOf(errors ...api.Errno) api.Errno {
	for _, e := range errors {
		if e != api.OK {
			return e
		}
	}
	return api.OK
}

// when returns an error if it applies, otherwise OK.
func when(applies bool, e api.Errno) api.Errno {
	if applies {
		return e
	}
	return api.OK
}

// checkItems returns the first error of the items, and the index of its item.
func checkItems[T any](items []T, errorOf func(i int, item T) api.Errno) (int, api.Errno) {
	for i, item := range items {
		if e := errorOf(i, item); e != api.OK {
			return i, e
		}
	}
	return 0, api.OK
}

// areWithin tells whether all of some numbers lie in a range.
func areWithin(lo, hi int, numbers ...int) bool {
	for _, n := range numbers {
		if n < lo || n > hi {
			return false
		}
	}
	return true
}

// limitError returns the error of numbers one of which is greater in size than a limit.
func limitError(limit int, numbers ...int) api.Errno {
	// The size of the smallest int is no int: its negative would not do here.
	return when(!areWithin(-limit, limit, numbers...), api.ErrRange)
}

// countError returns the error of a list that has no items, or too many.
func countError(count, most int) api.Errno {
	return firstOf(when(count == 0, api.ErrShape), when(count > most, api.ErrLarge))
}

// squareError returns the error of a square.
func squareError(square api.Frac) api.Errno {
	return firstOf(when(!isLowest(square), api.ErrForm), limitError(api.MaxModalSquare, square.Num, square.Den))
}

// denError returns the error of the denominator of an enclosure.
func denError(den int) api.Errno {
	return when(!areWithin(1, api.MaxModalDen, den), api.ErrRange)
}

// loadsError returns the error of loads on so many storeys.
func loadsError(loads []int, storeys int) api.Errno {
	return firstOf(when(len(loads) != storeys, api.ErrShape), limitError(api.MaxModalLoad, loads...))
}

// endsError returns the error of ranges whose ends are to lie between two numbers.
func endsError(l []api.Range, least, most int) api.Errno {
	_, e := checkItems(l, func(_ int, r api.Range) api.Errno {
		isOutside := !areWithin(least, most, r.Lo, r.Hi)
		return firstOf(when(isOutside, api.ErrRange), when(r.Lo > r.Hi, api.ErrOrder))
	})
	return e
}

// rangesError returns the error of ranges.
func rangesError(l []api.Range) api.Errno {
	if e := countError(len(l), api.MaxModalRanges); e != api.OK {
		return e
	}
	return endsError(l, -api.MaxModalEnd, api.MaxModalEnd)
}

// afterError returns the error of squares after a run, for a frame of so many storeys.
func afterError(x api.ModalAfter, storeys int) api.Errno {
	if e := firstOf(denError(x.Den), when(len(x.Squares) != storeys, api.ErrShape)); e != api.OK {
		return e
	}
	return endsError(x.Squares, 0, api.MaxModalEnd)
}
