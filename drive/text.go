package drive

import (
	"strconv"
	"strings"

	"ductility/api"
)

// The digits of parts of matrices and of drives at most.
const (
	matrixDigits = 2
	driveDigits  = 5
)

// FormatMatrix returns the string of a matrix.
func FormatMatrix(m [][]api.Gauss) string {
	var rows []string
	for _, list := range m {
		rows = append(rows, FormatDrive(list))
	}
	return strings.Join(rows, "|")
}

// FormatDrive returns the string of a drive.
func FormatDrive(drive []api.Gauss) string {
	var words []string
	for _, x := range drive {
		words = append(words, strconv.Itoa(x.Re)+","+strconv.Itoa(x.Im))
	}
	return strings.Join(words, " ")
}

// partOf returns the part of a word with at most so many digits, and whether it is one.
func partOf(word string, mostDigits int) (int, bool) {
	digits, isBelow := strings.CutPrefix(word, "-")
	if len(digits) == 0 || len(digits) > mostDigits || digits[0] == '0' && (len(digits) > 1 || isBelow) {
		return 0, false
	}
	n := 0
	for _, digit := range []byte(digits) {
		if digit < '0' || digit > '9' {
			return 0, false
		}
		n = 10*n + int(digit-'0')
	}
	if isBelow {
		n = -n
	}
	return n, true
}

// listOf returns the numbers of a string whose parts have at most so many digits, or ErrSyntax.
func listOf(s string, mostDigits int) ([]api.Gauss, api.Errno) {
	var list []api.Gauss
	for _, word := range strings.Split(s, " ") {
		// Without a "," the imaginary part is empty, and a second "," is in no part: both are malformed.
		first, second, _ := strings.Cut(word, ",")
		re, isReal := partOf(first, mostDigits)
		im, isImaginary := partOf(second, mostDigits)
		if !isReal || !isImaginary {
			return nil, api.ErrSyntax
		}
		list = append(list, api.Gauss{Re: re, Im: im})
	}
	return list, api.OK
}

// ParseMatrix returns the matrix of a string.
func ParseMatrix(s string) ([][]api.Gauss, api.Errno) {
	if len(s) > api.MaxString {
		return nil, api.ErrLarge
	}
	var m [][]api.Gauss
	for _, text := range strings.Split(s, "|") {
		list, e := listOf(text, matrixDigits)
		if e != api.OK {
			return nil, e
		}
		m = append(m, list)
	}
	if _, e := CheckMatrix(m); e != api.OK {
		return nil, e
	}
	return m, api.OK
}

// ParseDrive returns the drive of a string.
func ParseDrive(s string) ([]api.Gauss, api.Errno) {
	if len(s) > api.MaxString {
		return nil, api.ErrLarge
	}
	drive, e := listOf(s, driveDigits)
	if e = firstOf(e, when(len(drive) > api.MaxDriveSize, api.ErrLarge), partsError(api.MaxDriveLevel, drive)); e != api.OK {
		return nil, e
	}
	return drive, api.OK
}
