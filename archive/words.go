package archive

import (
	"strings"

	"ductility/api"
)

// The kinds of words behind the first one of a text or a question.
const (
	specimenKind = 's' // the name of a specimen that there is
	wordKind     = 'w' // another word
	numberKind   = 'n'
	restKind     = 'r' // everything that is left
)

// The digits of a number of texts and of the tick of an entry at most.
const (
	textDigits = 6
	tickDigits = 13
)

// words is the words behind the first one of a text or a question, each by its kind: none of them has a kind twice.
type words struct {
	specimen, word string
	number         int
	rest           string
}

// numberOf returns the number of a word of at most so many digits, or ErrSyntax.
func numberOf(word string, digits int) (int, api.Errno) {
	if len(word) == 0 || len(word) > digits || len(word) > 1 && word[0] == '0' {
		return 0, api.ErrSyntax
	}
	n := 0
	for _, digit := range []byte(word) {
		if !isDigit(digit) {
			return 0, api.ErrSyntax
		}
		n = 10*n + int(digit-'0')
	}
	return n, api.OK
}

// firstWord returns the first word of a text.
func firstWord(text string) string {
	first, _, _ := strings.Cut(text, " ")
	return first
}

// wordsOf returns the words of a text that has words of these kinds behind its first one, or ErrSyntax.
func wordsOf(text, kinds string) (words, api.Errno) {
	var x words
	_, left, isMore := strings.Cut(text, " ")
	for _, kind := range kinds {
		if !isMore {
			return words{}, api.ErrSyntax
		}
		word := left
		isMore = false
		if kind != restKind {
			word, left, isMore = strings.Cut(left, " ")
		}
		if e := x.take(kind, word); e != api.OK {
			return words{}, e
		}
	}
	return x, when(isMore, api.ErrSyntax)
}

// take adds a word of a kind, or returns ErrSyntax if it is not of this kind.
func (x *words) take(kind rune, word string) api.Errno {
	isEmpty := word == ""
	e := api.OK
	switch kind {
	case specimenKind:
		x.specimen, e = word, when(isEmpty, api.ErrSyntax)
	case wordKind:
		x.word, e = word, when(isEmpty, api.ErrSyntax)
	case numberKind:
		x.number, e = numberOf(word, textDigits)
	case restKind:
		x.rest = word
	}
	return e
}
