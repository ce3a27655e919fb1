package jack

import (
	"strconv"
	"strings"

	"ductility/api"
)

// The words of a jack, of the limits and of a piece, and the digits of a number at most.
const (
	jackWords  = 8
	limitWords = 12
	pieceWords = 19
	mostDigits = 4
)

// wordsOf returns numbers with single blanks between them.
func wordsOf(numbers ...int) string {
	var words []string
	for _, n := range numbers {
		words = append(words, strconv.Itoa(n))
	}
	return strings.Join(words, " ")
}

// textOf returns the texts of all items with ";" between them.
func textOf[T any](items []T, text func(T) string) string {
	var texts []string
	for _, item := range items {
		texts = append(texts, text(item))
	}
	return strings.Join(texts, ";")
}

// FormatRig returns the string of a rig.
func FormatRig(r api.JackRig) string {
	jacks := textOf(r.Jacks, func(j api.JackJack) string {
		return wordsOf(append(j.Direction[:], j.Stroke.Lo, j.Stroke.Hi)...)
	})
	var ends []int
	for _, x := range r.Limits {
		ends = append(ends, x.Lo, x.Hi)
	}
	return jacks + "/" + wordsOf(ends...)
}

// FormatPieces returns the string of pieces.
func FormatPieces(l []api.JackPiece) string {
	return textOf(l, func(x api.JackPiece) string {
		var numbers []int
		for _, way := range [...]api.JackWay{x.From, x.Speed, x.Half} {
			numbers = append(numbers, way[:]...)
		}
		return wordsOf(append(numbers, x.Ticks)...)
	})
}

// numberOf returns the number of a word, and whether it is one.
func numberOf(word string) (int, bool) {
	digits, isBelow := strings.CutPrefix(word, "-")
	if len(digits) == 0 || len(digits) > mostDigits || digits[0] == '0' && (len(digits) > 1 || isBelow) {
		return 0, false
	}
	n := 0
	for _, digit := range []byte(digits) {
		if digit < '0' || digit > '9' {
			return 0, false
		}
		n = 10*n + int(digit-'0')
	}
	if isBelow {
		n = -n
	}
	return n, true
}

// numbersOf returns the numbers of a string of so many words, or ErrSyntax.
func numbersOf(s string, count int) ([]int, api.Errno) {
	words := strings.Split(s, " ")
	if len(words) != count {
		return nil, api.ErrSyntax
	}
	var numbers []int
	for _, word := range words {
		n, isNumber := numberOf(word)
		if !isNumber {
			return nil, api.ErrSyntax
		}
		numbers = append(numbers, n)
	}
	return numbers, api.OK
}

// itemsOf returns the items of a string with ";" between them, or ErrSyntax; each is made from so many numbers.
func itemsOf[T any](s string, count int, itemOf func(numbers []int) (T, api.Errno)) ([]T, api.Errno) {
	var items []T
	for _, text := range strings.Split(s, ";") {
		numbers, e := numbersOf(text, count)
		if e != api.OK {
			return nil, e
		}
		item, e := itemOf(numbers)
		if e != api.OK {
			return nil, e
		}
		items = append(items, item)
	}
	return items, api.OK
}

// jackOf returns the jack of eight numbers.
func jackOf(numbers []int) (api.JackJack, api.Errno) {
	j := api.JackJack{Stroke: api.Range{Lo: numbers[6], Hi: numbers[7]}}
	copy(j.Direction[:], numbers)
	return j, api.OK
}

// pieceOf returns the piece of nineteen numbers; the last one has no "-".
func pieceOf(numbers []int) (api.JackPiece, api.Errno) {
	x := api.JackPiece{Ticks: numbers[18]}
	copy(x.From[:], numbers)
	copy(x.Speed[:], numbers[6:])
	copy(x.Half[:], numbers[12:])
	return x, when(x.Ticks < 0, api.ErrSyntax)
}

// ParseRig returns the rig of a string.
func ParseRig(s string) (api.JackRig, api.Errno) {
	if len(s) > api.MaxString {
		return api.JackRig{}, api.ErrLarge
	}
	jacks, limits, _ := strings.Cut(s, "/")
	l, jacksError := itemsOf(jacks, jackWords, jackOf)
	ends, limitsError := numbersOf(limits, limitWords)
	if e := firstOf(jacksError, limitsError); e != api.OK {
		return api.JackRig{}, e
	}
	r := api.JackRig{Jacks: l}
	for i := range r.Limits {
		r.Limits[i] = api.Range{Lo: ends[2*i], Hi: ends[2*i+1]}
	}
	if _, e := CheckRig(r); e != api.OK {
		return api.JackRig{}, e
	}
	return r, api.OK
}

// ParsePieces returns the pieces of a string.
func ParsePieces(s string) ([]api.JackPiece, api.Errno) {
	if len(s) > api.MaxString {
		return nil, api.ErrLarge
	}
	l, e := itemsOf(s, pieceWords, pieceOf)
	if e != api.OK {
		return nil, e
	}
	if _, e := CheckPieces(l); e != api.OK {
		return nil, e
	}
	return l, api.OK
}
