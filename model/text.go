package model

import (
	"strconv"
	"strings"

	"ductility/api"
)

// The words of a floor and of an element, and the digits of a number of scales and of frames at most.
const (
	floorWords   = 2
	elementWords = 3
	scaleDigits  = 3
	frameDigits  = 5
)

// wordsOf returns numbers with single blanks between them.
func wordsOf(numbers ...int) string {
	var words []string
	for _, n := range numbers {
		words = append(words, strconv.Itoa(n))
	}
	return strings.Join(words, " ")
}

// FormatScales returns the string of scales.
func FormatScales(s [3]api.Frac) string {
	var words []string
	for _, scale := range s {
		words = append(words, strconv.Itoa(scale.Num)+"/"+strconv.Itoa(scale.Den))
	}
	return strings.Join(words, " ")
}

// FormatFrame returns the string of a frame.
func FormatFrame(f api.ModelFrame) string {
	var floors []string
	for _, floor := range f.Floors {
		texts := []string{wordsOf(floor.Mass, floor.Limit)}
		for _, x := range floor.Spring {
			brittle := 0
			if x.Brittle {
				brittle = 1
			}
			texts = append(texts, wordsOf(x.Stiffness, x.Yield, brittle))
		}
		floors = append(floors, strings.Join(texts, ","))
	}
	return strings.Join(floors, ";")
}

// numberOf returns the number of a word of at most so many digits, or ErrSyntax.
func numberOf(word string, digits int) (int, api.Errno) {
	if len(word) == 0 || len(word) > digits || len(word) > 1 && word[0] == '0' {
		return 0, api.ErrSyntax
	}
	n := 0
	for _, digit := range []byte(word) {
		if digit < '0' || digit > '9' {
			return 0, api.ErrSyntax
		}
		n = 10*n + int(digit-'0')
	}
	return n, api.OK
}

// listOf returns the items of texts, and the first error.
func listOf[T any](texts []string, itemOf func(text string) (T, api.Errno)) ([]T, api.Errno) {
	var items []T
	_, e := checkItems(texts, func(_ int, text string) api.Errno {
		item, e := itemOf(text)
		items = append(items, item)
		return e
	})
	return items, e
}

// numbersOf returns the numbers of a text of a frame of so many words, or ErrSyntax.
func numbersOf(text string, count int) ([]int, api.Errno) {
	numbers, e := listOf(strings.Split(text, " "), func(word string) (int, api.Errno) {
		return numberOf(word, frameDigits)
	})
	return numbers, firstOf(e, when(len(numbers) != count, api.ErrSyntax))
}

// scaleOf returns the scale of a word, or ErrSyntax.
func scaleOf(word string) (api.Frac, api.Errno) {
	// Without a "/" there is no denominator, and a second one is in no number: both are malformed.
	left, right, _ := strings.Cut(word, "/")
	num, e := numberOf(left, scaleDigits)
	den, denError := numberOf(right, scaleDigits)
	return api.Frac{Num: num, Den: den}, firstOf(e, denError)
}

// elementOf returns the element of a text, or ErrSyntax.
func elementOf(text string) (api.ModelElement, api.Errno) {
	numbers, e := numbersOf(text, elementWords)
	if e != api.OK || numbers[2] > 1 {
		return api.ModelElement{}, api.ErrSyntax
	}
	return api.ModelElement{Stiffness: numbers[0], Yield: numbers[1], Brittle: numbers[2] == 1}, api.OK
}

// floorOf returns the floor of a text, or ErrSyntax.
func floorOf(text string) (api.ModelFloor, api.Errno) {
	// Without a "," there is an element without words, which is malformed.
	head, rest, _ := strings.Cut(text, ",")
	numbers, e := numbersOf(head, floorWords)
	spring, springError := listOf(strings.Split(rest, ","), elementOf)
	if e = firstOf(e, springError); e != api.OK {
		return api.ModelFloor{}, e
	}
	return api.ModelFloor{Mass: numbers[0], Limit: numbers[1], Spring: spring}, api.OK
}

// ParseScales returns the scales of a string.
func ParseScales(s string) ([3]api.Frac, api.Errno) {
	var scales [3]api.Frac
	list, e := listOf(strings.Split(s, " "), scaleOf)
	copy(scales[:], list)
	_, scalesError := CheckScales(scales)
	if e = firstOf(e, when(len(list) != len(scales), api.ErrSyntax), scalesError); e != api.OK {
		return [3]api.Frac{}, e
	}
	return scales, api.OK
}

// ParseFrame returns the frame of a string.
func ParseFrame(s string) (api.ModelFrame, api.Errno) {
	if len(s) > api.MaxString {
		return api.ModelFrame{}, api.ErrLarge
	}
	floors, e := listOf(strings.Split(s, ";"), floorOf)
	f := api.ModelFrame{Floors: floors}
	_, frameError := CheckFrame(f)
	if e = firstOf(e, frameError); e != api.OK {
		return api.ModelFrame{}, e
	}
	return f, api.OK
}
