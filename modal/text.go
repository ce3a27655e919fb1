package modal

import (
	"strconv"
	"strings"

	"ductility/api"
)

// The digits of a number of frames and of decays at most.
const (
	frameDigits = 3
	decayDigits = 5
)

// wordsOf returns numbers with single blanks between them.
func wordsOf(numbers []int) string {
	var words []string
	for _, n := range numbers {
		words = append(words, strconv.Itoa(n))
	}
	return strings.Join(words, " ")
}

// FormatFrame returns the string of a frame.
func FormatFrame(f api.ModalFrame) string {
	return wordsOf(f.Masses) + ";" + wordsOf(f.Springs)
}

// FormatDecay returns the string of a decay.
func FormatDecay(x api.ModalDecay) string {
	return strconv.Itoa(x.Off) + ";" + wordsOf(x.Samples)
}

// numberOf returns the number of a word of at most so many digits, or ErrSyntax.
func numberOf(word string, digits int) (int, api.Errno) {
	if len(word) == 0 || len(word) > digits || len(word) > 1 && word[0] == '0' {
		return 0, api.ErrSyntax
	}
	n := 0
	for _, digit := range []byte(word) {
		if digit < '0' || digit > '9' {
			return 0, api.ErrSyntax
		}
		n = 10*n + int(digit-'0')
	}
	return n, api.OK
}

// signedOf returns the number of a word that may begin with "-", or ErrSyntax.
func signedOf(word string, digits int) (int, api.Errno) {
	size, isBelow := strings.CutPrefix(word, "-")
	n, e := numberOf(size, digits)
	if !isBelow {
		return n, e
	}
	return -n, firstOf(e, when(n == 0, api.ErrSyntax))
}

// numbersOf returns the numbers of a text, each as a function has it of its word, or ErrSyntax.
func numbersOf(text string, digits int, ofWord func(word string, digits int) (int, api.Errno)) ([]int, api.Errno) {
	var numbers []int
	_, e := checkItems(strings.Split(text, " "), func(_ int, word string) api.Errno {
		n, e := ofWord(word, digits)
		numbers = append(numbers, n)
		return e
	})
	return numbers, e
}

// ParseFrame returns the frame of a string.
func ParseFrame(s string) (api.ModalFrame, api.Errno) {
	if len(s) > api.MaxString {
		return api.ModalFrame{}, api.ErrLarge
	}
	// Without a ";" the springs are an empty word, and a second one is in no number: both are malformed.
	first, second, _ := strings.Cut(s, ";")
	masses, e := numbersOf(first, frameDigits, numberOf)
	springs, springsError := numbersOf(second, frameDigits, numberOf)
	f := api.ModalFrame{Masses: masses, Springs: springs}
	_, frameError := CheckFrame(f)
	if e = firstOf(e, springsError, frameError); e != api.OK {
		return api.ModalFrame{}, e
	}
	return f, api.OK
}

// ParseDecay returns the decay of a string.
func ParseDecay(s string) (api.ModalDecay, api.Errno) {
	if len(s) > api.MaxString {
		return api.ModalDecay{}, api.ErrLarge
	}
	// Without a ";" the samples are an empty word, and a second one is in no number: both are malformed.
	first, second, _ := strings.Cut(s, ";")
	off, e := numberOf(first, decayDigits)
	samples, samplesError := numbersOf(second, decayDigits, signedOf)
	x := api.ModalDecay{Samples: samples, Off: off}
	_, decayError := decayOf(x)
	if e = firstOf(e, samplesError, decayError); e != api.OK {
		return api.ModalDecay{}, e
	}
	return x, api.OK
}
