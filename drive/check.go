package drive

import "ductility/api"

// firstOf returns the first of several errors, and OK if there is none.
func firstOf(errors ...api.Errno) api.Errno {
	for _, e := range errors {
		if e != api.OK {
			return e
		}
	}
	return api.OK
}

// when returns an error if it applies, otherwise OK.
func when(applies bool, e api.Errno) api.Errno {
	if applies {
		return e
	}
	return api.OK
}

// checkItems returns the first error of the items, and the index of its item.
func checkItems[T any](items []T, errorOf func(i int, item T) api.Errno) (int, api.Errno) {
	for i, item := range items {
		if e := errorOf(i, item); e != api.OK {
			return i, e
		}
	}
	return 0, api.OK
}

// isBeyond tells whether one of the numbers is greater in size than a limit.
func isBeyond(limit int, numbers ...int) bool {
	// The size of the smallest int is no int: its negative would not do here.
	return !areWithin(-limit, limit, numbers...)
}

// areWithin tells whether all of some numbers lie in a range.
func areWithin(lo, hi int, numbers ...int) bool {
	for _, n := range numbers {
		if n < lo || n > hi {
			return false
		}
	}
	return true
}

// partsError returns the error of numbers of which a part is greater in size than a limit.
func partsError(limit int, list []api.Gauss) api.Errno {
	_, e := checkItems(list, func(_ int, x api.Gauss) api.Errno {
		return when(isBeyond(limit, x.Re, x.Im), api.ErrRange)
	})
	return e
}

// listError returns the error of a drive or of a target, for a matrix of so many rows.
func listError(list []api.Gauss, rows int) api.Errno {
	return firstOf(when(len(list) != rows, api.ErrShape), partsError(api.MaxDriveLevel, list))
}

// quotientError returns the error of a quotient of so many rows.
func quotientError(x api.DriveQuotient, rows int) api.Errno {
	if e := when(!areWithin(1, api.MaxDriveDen, x.Den), api.ErrRange); e != api.OK {
		return e
	}
	_, shapeError := checkItems(x.Rows, func(_ int, row []api.Gauss) api.Errno {
		return when(len(row) != rows, api.ErrShape)
	})
	if e := firstOf(when(len(x.Rows) != rows, api.ErrShape), shapeError); e != api.OK {
		return e
	}
	_, rangeError := checkItems(x.Rows, func(_ int, row []api.Gauss) api.Errno {
		return partsError(api.MaxDriveDen, row)
	})
	return firstOf(rangeError, when(divisorOf(x.Den, partsOf(x.Rows)...) != 1, api.ErrForm))
}

// runsError returns the error of runs, but for that of their determinant.
func runsError(r api.DriveRuns) api.Errno {
	count := len(r.Inputs)
	isUneven := count == 0 || len(r.Outputs) != count
	if e := firstOf(when(isUneven, api.ErrShape), when(count > api.MaxDriveRuns, api.ErrLarge)); e != api.OK {
		return e
	}
	numbers := len(r.Inputs[0])
	_, e := checkItems(r.Inputs, func(i int, inputs []api.Gauss) api.Errno {
		outputs := r.Outputs[i]
		isUneven := numbers == 0 || len(inputs) != numbers || len(outputs) != numbers
		return firstOf(
			when(isUneven, api.ErrShape),
			when(numbers > api.MaxDriveSize, api.ErrLarge),
			partsError(api.MaxDriveNoise, inputs),
			partsError(api.MaxDriveNoise, outputs))
	})
	return e
}

// gainError returns the error of a gain.
func gainError(gain api.Frac) api.Errno {
	isLowest := gain.Den > 0 && divisorOf(gain.Num, gain.Den) == 1
	isOutside := gain.Num < 0 || gain.Num > gain.Den || gain.Den > mostGainDen
	return firstOf(when(!isLowest, api.ErrForm), when(isOutside, api.ErrRange))
}

// polynomialError returns the error of a polynomial.
func polynomialError(p polynomial) api.Errno {
	return firstOf(
		countError(len(p)),
		when(isBeyond(api.MaxDriveCoef, p...), api.ErrRange),
		when(len(p) > 0 && p[0] == 0, api.ErrZero))
}

// countError returns the error of so many coefficients.
func countError(count int) api.Errno {
	return firstOf(when(count == 0, api.ErrShape), when(count > api.MaxDriveDegree+1, api.ErrLarge))
}

// classError returns the error of a class of masses.
func classError(masses api.Range) api.Errno {
	isOutside := !areWithin(0, api.MaxDriveClass, masses.Lo, masses.Hi)
	return firstOf(when(isOutside, api.ErrRange), when(masses.Lo > masses.Hi, api.ErrOrder))
}
