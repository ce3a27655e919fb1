package oil

import (
	"strconv"
	"strings"

	"ductility/api"
)

// The words at the beginning of a plant, and of a point or a range, and the digits of a number at most.
const (
	headWords  = 3
	pairWords  = 2
	mostDigits = 4
)

// wordsOf returns numbers with single blanks between them.
func wordsOf(numbers ...int) string {
	var words []string
	for _, n := range numbers {
		words = append(words, strconv.Itoa(n))
	}
	return strings.Join(words, " ")
}

// FormatPlant returns the string of a plant.
func FormatPlant(p api.OilPlant) string {
	texts := []string{wordsOf(p.Pump, p.On, p.Off)}
	for _, x := range p.Points {
		texts = append(texts, wordsOf(x.Volume, x.Pressure))
	}
	return strings.Join(texts, ";")
}

// FormatClass returns the string of a class.
func FormatClass(class []api.Range) string {
	var texts []string
	for _, x := range class {
		texts = append(texts, wordsOf(x.Lo, x.Hi))
	}
	return strings.Join(texts, ";")
}

// numberOf returns the number of a word, and whether it is one.
func numberOf(word string) (int, bool) {
	if len(word) == 0 || len(word) > mostDigits || len(word) > 1 && word[0] == '0' {
		return 0, false
	}
	n := 0
	for _, digit := range []byte(word) {
		if digit < '0' || digit > '9' {
			return 0, false
		}
		n = 10*n + int(digit-'0')
	}
	return n, true
}

// numbersOf returns the numbers of a string of so many words, or ErrSyntax.
func numbersOf(s string, count int) ([]int, api.Errno) {
	words := strings.Split(s, " ")
	if len(words) != count {
		return nil, api.ErrSyntax
	}
	var numbers []int
	for _, word := range words {
		n, isNumber := numberOf(word)
		if !isNumber {
			return nil, api.ErrSyntax
		}
		numbers = append(numbers, n)
	}
	return numbers, api.OK
}

// pairsOf returns the items of texts, each of which is made from two numbers, or ErrSyntax.
func pairsOf[T any](texts []string, itemOf func(first, second int) T) ([]T, api.Errno) {
	var items []T
	for _, text := range texts {
		numbers, e := numbersOf(text, pairWords)
		if e != api.OK {
			return nil, e
		}
		items = append(items, itemOf(numbers[0], numbers[1]))
	}
	return items, api.OK
}

// ParsePlant returns the plant of a string.
func ParsePlant(s string) (api.OilPlant, api.Errno) {
	if len(s) > api.MaxString {
		return api.OilPlant{}, api.ErrLarge
	}
	texts := strings.Split(s, ";")
	head, headError := numbersOf(texts[0], headWords)
	points, pointsError := pairsOf(texts[1:], func(volume, pressure int) api.OilPoint {
		return api.OilPoint{Volume: volume, Pressure: pressure}
	})
	if e := firstOf(headError, pointsError); e != api.OK {
		return api.OilPlant{}, e
	}
	p := api.OilPlant{Points: points, Pump: head[0], On: head[1], Off: head[2]}
	if _, e := CheckPlant(p); e != api.OK {
		return api.OilPlant{}, e
	}
	return p, api.OK
}

// ParseClass returns the class of a string.
func ParseClass(s string) ([]api.Range, api.Errno) {
	if len(s) > api.MaxString {
		return nil, api.ErrLarge
	}
	if s == "" {
		return nil, api.OK
	}
	class, e := pairsOf(strings.Split(s, ";"), func(lo, hi int) api.Range { return api.Range{Lo: lo, Hi: hi} })
	if e = firstOf(e, classError(class)); e != api.OK {
		return nil, e
	}
	return class, api.OK
}
