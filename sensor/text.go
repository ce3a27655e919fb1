package sensor

import (
	"strconv"
	"strings"

	"ductility/api"
)

// The digits of a number of lines and of raw samples at most, and the numbers of a line.
const (
	lineDigits  = 12
	rawDigits   = 6
	lineNumbers = 3
)

// FormatLine returns the string of a line.
func FormatLine(x api.SensorLine) string {
	return FormatRaw([]int{x.Gain, x.Offset, x.Den})
}

// FormatRaw returns the string of raw samples.
func FormatRaw(raw []int) string {
	var words []string
	for _, sample := range raw {
		words = append(words, strconv.Itoa(sample))
	}
	return strings.Join(words, " ")
}

// numberOf returns the number of a word of at most so many digits, or ErrSyntax.
func numberOf(word string, digits int) (int, api.Errno) {
	if len(word) == 0 || len(word) > digits || len(word) > 1 && word[0] == '0' {
		return 0, api.ErrSyntax
	}
	n := 0
	for _, digit := range []byte(word) {
		if digit < '0' || digit > '9' {
			return 0, api.ErrSyntax
		}
		n = 10*n + int(digit-'0')
	}
	return n, api.OK
}

// signedOf returns the number of a word that may begin with "-", or ErrSyntax.
func signedOf(word string, digits int) (int, api.Errno) {
	size, isBelow := strings.CutPrefix(word, "-")
	n, e := numberOf(size, digits)
	if !isBelow {
		return n, e
	}
	return -n, firstOf(e, when(n == 0, api.ErrSyntax))
}

// ParseLine returns the line of a string.
func ParseLine(s string) (api.SensorLine, api.Errno) {
	words := strings.Split(s, " ")
	if len(words) != lineNumbers {
		return api.SensorLine{}, api.ErrSyntax
	}
	gain, e := signedOf(words[0], lineDigits)
	offset, offsetError := signedOf(words[1], lineDigits)
	den, denError := numberOf(words[2], lineDigits)
	x := api.SensorLine{Gain: gain, Offset: offset, Den: den}
	if e = firstOf(e, offsetError, denError, CheckLine(x)); e != api.OK {
		return api.SensorLine{}, e
	}
	return x, api.OK
}

// ParseRaw returns the raw samples of a string.
func ParseRaw(s string) ([]int, api.Errno) {
	if len(s) > api.MaxString {
		return nil, api.ErrLarge
	}
	words := strings.Split(s, " ")
	raw := make([]int, len(words))
	_, e := checkItems(words, func(i int, word string) api.Errno {
		sample, e := signedOf(word, rawDigits)
		raw[i] = sample
		return e
	})
	if e = firstOf(e, rawError(raw)); e != api.OK {
		return nil, e
	}
	return raw, api.OK
}
