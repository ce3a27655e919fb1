package drive

import (
	"slices"

	"ductility/api"
)

// quotient is a matrix that is divided by a whole number above 0.
type quotient struct {
	matrix
	den int
}

// inverse returns the inverse of a matrix, or ErrZero if its determinant is 0.
func (m matrix) inverse() (quotient, api.Errno) {
	d := gaussOf(m.determinant())
	divisor := divisorOf(d.Re, d.Im)
	if divisor == 0 {
		return quotient{}, api.ErrZero
	}
	// 1 divided by a number is its conjugate divided by the square of its size. What divides both parts is kept out of
	// this square: the determinant of the sums of runs is real, and its square would be too great for complex128.
	re, im := d.Re/divisor, d.Im/divisor
	return quotient{m.adjugate().multiple(api.Gauss{Re: re, Im: -im}), divisor * (re*re + im*im)}, api.OK
}

// lowest returns the quotient in lowest terms.
func (q quotient) lowest() api.DriveQuotient {
	rows := q.lists()
	divisor := divisorOf(q.den, partsOf(rows)...)
	for _, list := range rows {
		for i, x := range list {
			list[i] = api.Gauss{Re: x.Re / divisor, Im: x.Im / divisor}
		}
	}
	return api.DriveQuotient{Den: q.den / divisor, Rows: rows}
}

// partsOf returns all parts of all numbers of rows.
func partsOf(rows [][]api.Gauss) []int {
	var parts []int
	for _, x := range slices.Concat(rows...) {
		parts = append(parts, x.Re, x.Im)
	}
	return parts
}

// divisorOf returns the greatest number that divides all of some numbers, 0 if all are 0.
func divisorOf(first int, further ...int) int {
	divisor := first
	for _, n := range further {
		for n != 0 {
			divisor, n = n, divisor%n
		}
	}
	return max(divisor, -divisor)
}

// fraction returns a quotient in lowest terms, or ErrLarge if a part is too great; the denominator is above 0.
func fraction(num, den int) (api.Frac, api.Errno) {
	divisor := divisorOf(num, den)
	f := api.Frac{Num: num / divisor, Den: den / divisor}
	if isBeyond(api.MaxPart, f.Num, f.Den) {
		return api.Frac{}, api.ErrLarge
	}
	return f, api.OK
}
