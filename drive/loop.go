package drive

import (
	"iter"
	"slices"

	"ductility/api"
)

// polynomial is coefficients, that of the highest power first.
type polynomial []int

// lowest returns the coefficients divided by what divides all of them, the first one above 0; that one is not 0 before.
func (p polynomial) lowest() polynomial {
	divisor := divisorOf(p[0], p[1:]...)
	if p[0] < 0 {
		divisor = -divisor
	}
	var divided polynomial
	for _, n := range p {
		divided = append(divided, n/divisor)
	}
	return divided
}

// isLast tells whether a row is the last one of its table, as one of a single number is; its first number is above 0.
func (p polynomial) isLast() bool {
	last := p[len(p)-1]
	return max(last, -last) >= p[0]
}

// next returns the row of a table after one that is not the last one.
func (p polynomial) next() polynomial {
	end := len(p) - 1
	backwards := slices.Clone(p)
	slices.Reverse(backwards)
	// All products fit into int, also those from a row of two that follows one of three: the difference of the ends of
	// that one divides both of its numbers, so that they are at most 4000000 in size.
	var next polynomial
	for n, opposite := range pairs(p[:end], backwards) {
		next = append(next, p[0]*n-p[end]*opposite)
	}
	return next.lowest()
}

// table returns the table of a polynomial.
func (p polynomial) table() [][]int {
	row := p.lowest()
	table := [][]int{row}
	for !row.isLast() {
		row = row.next()
		table = append(table, row)
	}
	return table
}

// isStable tells whether a polynomial is stable.
func (p polynomial) isStable() bool {
	table := p.table()
	return len(table[len(table)-1]) == 1
}

// TableOf returns the table of a polynomial.
func TableOf(p []int) ([][]int, api.Errno) {
	if e := polynomialError(p); e != api.OK {
		return nil, e
	}
	return polynomial(p).table(), api.OK
}

// IsStable tells whether a polynomial is stable.
func IsStable(p []int) (bool, api.Errno) {
	if e := polynomialError(p); e != api.OK {
		return false, e
	}
	return polynomial(p).isStable(), api.OK
}

// loop is a loop without errors.
type loop struct{ api.DriveLoop }

// loopOf returns a loop, or the error of it.
func loopOf(l api.DriveLoop) (loop, api.Errno) {
	isGreat := isBeyond(api.MaxDriveCoef, l.Base...) || isBeyond(api.MaxDriveCoef, l.By...)
	if e := firstOf(
		when(len(l.By) != len(l.Base), api.ErrShape),
		countError(len(l.Base)),
		classError(l.Masses),
		when(isGreat, api.ErrRange)); e != api.OK {
		return loop{}, e
	}
	for _, p := range (loop{l}).polynomials() {
		if e := polynomialError(p); e != api.OK {
			return loop{}, e
		}
	}
	return loop{l}, api.OK
}

// polynomials yields the masses of the class, each with its polynomial.
func (l loop) polynomials() iter.Seq2[int, polynomial] {
	return func(yield func(int, polynomial) bool) {
		for mass := l.Masses.Lo; mass <= l.Masses.Hi; mass++ {
			var p polynomial
			for base, by := range pairs(l.Base, l.By) {
				p = append(p, base+mass*by)
			}
			if !yield(mass, p) {
				return
			}
		}
	}
}

// firstUnstable returns the smallest mass without a stable polynomial, and whether there is one.
func (l loop) firstUnstable() (int, bool) {
	for mass, p := range l.polynomials() {
		if !p.isStable() {
			return mass, true
		}
	}
	return 0, false
}

// FirstUnstable returns the smallest mass of a class whose polynomial is not stable.
func FirstUnstable(l api.DriveLoop) (int, api.Errno) {
	checked, e := loopOf(l)
	if e != api.OK {
		return 0, e
	}
	mass, isFound := checked.firstUnstable()
	return mass, when(!isFound, api.ErrNone)
}

// MarginOf returns the greatest mass up to which all polynomials of a class are stable.
func MarginOf(l api.DriveLoop) (int, api.Errno) {
	checked, e := loopOf(l)
	if e != api.OK {
		return 0, e
	}
	mass, isFound := checked.firstUnstable()
	if !isFound {
		return checked.Masses.Hi, api.OK
	}
	if mass == checked.Masses.Lo {
		return 0, api.ErrNone
	}
	return mass - 1, api.OK
}
