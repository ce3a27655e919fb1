package oil

import "ductility/api"

// leastPoints is how many points a plant or a valve has at least.
const leastPoints = 2

// firstOf returns the first of several errors, and OK if there is none.
func firstOf(errors ...api.Errno) api.Errno {
	for _, e := range errors {
		if e != api.OK {
			return e
		}
	}
	return api.OK
}

// when returns an error if it applies, otherwise OK.
func when(applies bool, e api.Errno) api.Errno {
	if applies {
		return e
	}
	return api.OK
}

// checkItems returns the first error of the items, and the index of its item.
func checkItems[T any](items []T, errorOf func(i int, item T) api.Errno) (int, api.Errno) {
	for i, item := range items {
		if e := errorOf(i, item); e != api.OK {
			return i, e
		}
	}
	return 0, api.OK
}

// areWithin tells whether all of some numbers lie in a range.
func areWithin(lo, hi int, numbers ...int) bool {
	for _, n := range numbers {
		if n < lo || n > hi {
			return false
		}
	}
	return true
}

// countError returns the error of a line that has too few points, or too many.
func countError(count int) api.Errno {
	return firstOf(when(count < leastPoints, api.ErrShape), when(count > api.MaxOilPoints, api.ErrLarge))
}

// rangeError returns the error of a range whose ends have limits.
func rangeError(lo, hi int, x api.Range) api.Errno {
	return firstOf(when(!areWithin(lo, hi, x.Lo, x.Hi), api.ErrRange), when(x.Lo > x.Hi, api.ErrOrder))
}

// demandError returns the error of a demand.
func demandError(demand int) api.Errno {
	return when(!areWithin(0, api.MaxOilFlow, demand), api.ErrRange)
}

// demandsError returns the error of a range of demands.
func demandsError(demands api.Range) api.Errno {
	return rangeError(0, api.MaxOilFlow, demands)
}

// classError returns the error of a class.
func classError(class []api.Range) api.Errno {
	_, e := CheckClass(class)
	return e
}

// limitError returns the error of a limit.
func limitError(limit int) api.Errno {
	return when(!areWithin(0, api.MaxOilPressure, limit), api.ErrRange)
}

// columnError returns the error of a column.
func columnError(c api.OilColumn) api.Errno {
	return when(!areWithin(1, api.MaxOilColumn, c.Modulus, c.Area, c.Length), api.ErrRange)
}
