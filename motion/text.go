package motion

import (
	"strconv"
	"strings"

	"ductility/api"
)

// mostDigits is how many digits a number of a string has at most.
const mostDigits = 7

// FormatRecord returns the string of a record.
func FormatRecord(r api.MotionRecord) string {
	var words []string
	for _, a := range r.Samples {
		words = append(words, strconv.Itoa(a))
	}
	return strconv.Itoa(r.Step) + ";" + strings.Join(words, " ")
}

// digitsOf returns the number of a word of digits alone, and whether it is one.
func digitsOf(word string) (int, bool) {
	if len(word) == 0 || len(word) > mostDigits || len(word) > 1 && word[0] == '0' {
		return 0, false
	}
	n := 0
	for _, digit := range []byte(word) {
		if digit < '0' || digit > '9' {
			return 0, false
		}
		n = 10*n + int(digit-'0')
	}
	return n, true
}

// sampleOf returns the sample of a word, and whether it is one.
func sampleOf(word string) (int, bool) {
	digits, isBelow := strings.CutPrefix(word, "-")
	n, isNumber := digitsOf(digits)
	if !isBelow {
		return n, isNumber
	}
	return -n, isNumber && n != 0
}

// samplesOf returns the samples of words that are separated by single blanks, or ErrSyntax.
func samplesOf(text string) ([]int, api.Errno) {
	var samples []int
	for _, word := range strings.Split(text, " ") {
		a, isSample := sampleOf(word)
		if !isSample {
			return nil, api.ErrSyntax
		}
		samples = append(samples, a)
	}
	return samples, api.OK
}

// ParseRecord returns the record of a string.
func ParseRecord(s string) (api.MotionRecord, api.Errno) {
	if len(s) > api.MaxString {
		return api.MotionRecord{}, api.ErrLarge
	}
	// Without a ";" the text of the samples is empty, and a second ";" is in no sample: both are malformed.
	head, text, _ := strings.Cut(s, ";")
	step, isStep := digitsOf(head)
	samples, e := samplesOf(text)
	r := api.MotionRecord{Step: step, Samples: samples}
	if e = firstOf(when(!isStep, api.ErrSyntax), e, recordError(r)); e != api.OK {
		return api.MotionRecord{}, e
	}
	return r, api.OK
}
