package safety

import (
	"slices"

	"ductility/api"
)

// firstOf returns the first of several errors, and OK if there is none.
func firstOf(errors ...api.Errno) api.Errno {
	for _, e := range errors {
		if e != api.OK {
			return e
		}
	}
	return api.OK
}

// when returns an error if it applies, otherwise OK.
func when(applies bool, e api.Errno) api.Errno {
	if applies {
		return e
	}
	return api.OK
}

// checkItems returns the first error of the items, and the index of its item.
func checkItems[T any](items []T, errorOf func(i int, item T) api.Errno) (int, api.Errno) {
	for i, item := range items {
		if e := errorOf(i, item); e != api.OK {
			return i, e
		}
	}
	return 0, api.OK
}

// areWithin tells whether all of some numbers lie in a range.
func areWithin(lo, hi int, numbers ...int) bool {
	for _, n := range numbers {
		if n < lo || n > hi {
			return false
		}
	}
	return true
}

// isBeyond tells whether one of the numbers is greater in size than a limit.
func isBeyond(limit int, numbers ...int) bool {
	// The size of the smallest int is no int: its negative would not do here.
	return !areWithin(-limit, limit, numbers...)
}

// isLetter tells whether a byte is a letter.
func isLetter(c byte) bool { return c >= 'a' && c <= 'z' || c >= 'A' && c <= 'Z' }

// isDigit tells whether a byte is a digit.
func isDigit(c byte) bool { return c >= '0' && c <= '9' }

// isName tells whether a string is a name.
func isName(s string) bool {
	if len(s) == 0 || len(s) > api.MaxName || !isLetter(s[0]) {
		return false
	}
	for _, c := range []byte(s) {
		if !isLetter(c) && !isDigit(c) && c != '-' {
			return false
		}
	}
	return true
}

// nameError returns the error of a name in a list, which has an error of its own for one that stands before.
func nameError(names []string, i int, again api.Errno) api.Errno {
	return firstOf(
		when(!isName(names[i]), api.ErrName),
		when(slices.Contains(names[:i], names[i]), again))
}

// indexesError returns the error of indexes of so many flags that ascend.
func indexesError(indexes []int, count int) api.Errno {
	_, e := checkItems(indexes, func(i, index int) api.Errno {
		return firstOf(
			when(!areWithin(0, count-1, index), api.ErrMissing),
			when(i > 0 && index <= indexes[i-1], api.ErrOrder))
	})
	return e
}

// testError returns the error of a test for so many flags.
func testError(t api.SafetyTest, count int) api.Errno {
	if e := firstOf(indexesError(t.On, count), indexesError(t.Off, count)); e != api.OK {
		return e
	}
	return when(flagsOf(t.On)&flagsOf(t.Off) != 0, api.ErrClash)
}
