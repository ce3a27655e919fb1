package archive

import (
	"slices"

	"ductility/api"
)

// firstOf returns the first of several errors, and OK if there is none.
func firstOf(errors ...api.Errno) api.Errno {
	for _, e := range errors {
		if e != api.OK {
			return e
		}
	}
	return api.OK
}

// when returns an error if it applies, otherwise OK.
func when(applies bool, e api.Errno) api.Errno {
	if applies {
		return e
	}
	return api.OK
}

// checkItems returns the first error of the items, and the index of its item.
func checkItems[T any](items []T, errorOf func(i int, item T) api.Errno) (int, api.Errno) {
	for i, item := range items {
		if e := errorOf(i, item); e != api.OK {
			return i, e
		}
	}
	return 0, api.OK
}

// isWithin tells whether a number lies in a range.
func isWithin(lo, hi, n int) bool { return lo <= n && n <= hi }

// isLetter tells whether a byte is a letter.
func isLetter(c byte) bool { return c >= 'a' && c <= 'z' || c >= 'A' && c <= 'Z' }

// isDigit tells whether a byte is a digit.
func isDigit(c byte) bool { return c >= '0' && c <= '9' }

// isName tells whether a string is a name.
func isName(s string) bool {
	if len(s) == 0 || len(s) > api.MaxName || !isLetter(s[0]) {
		return false
	}
	for _, c := range []byte(s) {
		if !isLetter(c) && !isDigit(c) && c != '-' {
			return false
		}
	}
	return true
}

// nameError returns the error of a name behind others.
func nameError(others []string, name string) api.Errno {
	return firstOf(
		when(!isName(name), api.ErrName),
		when(slices.Contains(others, name), api.ErrExists))
}

// stringsOf returns a string of each item.
func stringsOf[T any](items []T, ofItem func(item T) string) []string {
	var l []string
	for _, item := range items {
		l = append(l, ofItem(item))
	}
	return l
}
