package oil

import (
	"sort"

	"ductility/api"
)

// point is a whole place, and how high a line is there.
type point struct{ place, height int }

// line is points with ascending places, the first one 0, whose heights do not fall; it is straight between neighbours.
type line []point

// lineOf returns the line of points of another type.
func lineOf[T any](items []T, pointOf func(T) point) line {
	var l line
	for _, item := range items {
		l = append(l, pointOf(item))
	}
	return l
}

// last returns the last place of a line.
func (l line) last() int {
	return l[len(l)-1].place
}

// at returns how high a line is at a place from 0 to the last one.
func (l line) at(place int) api.Frac {
	next := 1
	for l[next].place < place {
		next++
	}
	from, to := l[next-1], l[next]
	width := to.place - from.place
	return fraction(from.height*width+(to.height-from.height)*(place-from.place), width)
}

// first returns the smallest whole place at which a line is high enough, one more than the last place if there is none.
func (l line) first(isEnough func(height api.Frac) bool) int {
	return sort.Search(l.last()+1, func(place int) bool { return isEnough(l.at(place)) })
}

// reaching returns the first place with at least a height.
func (l line) reaching(height int) int {
	return l.first(func(h api.Frac) bool { return !isBelow(h, height) })
}

// passing returns the first place with more than a height.
func (l line) passing(height int) int {
	return l.first(func(h api.Frac) bool { return isAbove(h, height) })
}

// fraction returns a quotient of numbers that are not below 0 in lowest terms; the denominator is not 0.
func fraction(num, den int) api.Frac {
	divisor, rest := den, num
	for rest != 0 {
		divisor, rest = rest, divisor%rest
	}
	return api.Frac{Num: num / divisor, Den: den / divisor}
}

// isBelow tells whether a fraction is less than a whole number.
func isBelow(f api.Frac, n int) bool {
	return f.Num < n*f.Den
}

// isAbove tells whether a fraction is greater than a whole number.
func isAbove(f api.Frac, n int) bool {
	return f.Num > n*f.Den
}

// down returns a quotient of numbers that are not below 0, rounded down.
func down(f api.Frac) int {
	return f.Num / f.Den
}

// up returns a quotient of numbers that are not below 0, rounded up.
func up(f api.Frac) int {
	return (f.Num + f.Den - 1) / f.Den
}
