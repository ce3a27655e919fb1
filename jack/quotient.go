package jack

import "ductility/api"

// divisorOf returns the greatest number that divides all of some numbers, 0 if all are 0.
func divisorOf(numbers ...int) int {
	divisor := 0
	for _, n := range numbers {
		for n != 0 {
			divisor, n = n, divisor%n
		}
	}
	return max(divisor, -divisor)
}

// fraction returns a quotient in lowest terms; the denominator is not 0.
func fraction(num, den int) api.Frac {
	divisor := divisorOf(num, den)
	if den < 0 {
		divisor = -divisor
	}
	return api.Frac{Num: num / divisor, Den: den / divisor}
}

// isLess tells whether a fraction is less than another one.
func isLess(a, b api.Frac) bool {
	return a.Num*b.Den < b.Num*a.Den
}

// whole returns a whole number as a fraction.
func whole(n int) api.Frac {
	return api.Frac{Num: n, Den: 1}
}

// matrix is six rows, which are the same as its columns.
type matrix [6]parts

// matrix returns the matrix whose product with a pose is the sum of all directions, each multiplied by the extension of its jack.
func (r rig) matrix() matrix {
	var rows matrix
	for i := range rows {
		rows[i] = r.sum(r.lengths(unit(i)))
	}
	return rows
}

// determinant expands by rows from one on, over the columns that are not used. Elimination would multiply two numbers
// of the size of its results, which int does not hold; here none is above 720 times 32^5 times 3200.
func (m matrix) determinant(row int, isUsed [6]bool) int {
	if row == len(m) {
		return 1
	}
	sum, sign := 0, 1
	for column, n := range m[row] {
		if isUsed[column] {
			continue
		}
		if n != 0 {
			rest := isUsed
			rest[column] = true
			sum += sign * n * m.determinant(row+1, rest)
		}
		sign = -sign
	}
	return sum
}

// solution returns the quotients whose product with the matrix is what is wanted, in lowest terms, and whether they are the only ones.
func (m matrix) solution(wanted parts) (api.JackPose, bool) {
	den := m.determinant(0, [6]bool{})
	if den == 0 {
		return api.JackPose{}, false
	}
	var x api.JackPose
	for i := range m {
		// The rule replaces a column, which is the same as a row here.
		replaced := m
		replaced[i] = wanted
		x.Parts[i] = replaced.determinant(0, [6]bool{})
	}
	divisor := divisorOf(append(x.Parts[:], den)...)
	for i := range x.Parts {
		x.Parts[i] /= divisor
	}
	x.Den = den / divisor
	return x, true
}
