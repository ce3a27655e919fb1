package motion

import "ductility/api"

// divisorOf returns the greatest number that divides all of some numbers, 0 if all are 0.
func divisorOf(numbers ...int) int {
	divisor := 0
	for _, n := range numbers {
		for n != 0 {
			divisor, n = n, divisor%n
		}
	}
	return max(divisor, -divisor)
}

// isLowest tells whether numbers with a denominator are in lowest terms.
func isLowest(den int, parts ...int) bool {
	return den > 0 && divisorOf(den, divisorOf(parts...)) == 1
}

// lowest returns numbers with a denominator above 0 in lowest terms.
func lowest(den int, parts ...int) api.MotionParts {
	divisor := divisorOf(den, divisorOf(parts...))
	x := api.MotionParts{Den: den / divisor}
	for _, part := range parts {
		x.Parts = append(x.Parts, part/divisor)
	}
	return x
}

// fraction returns a quotient in lowest terms; the denominator is above 0.
func fraction(num, den int) api.Frac {
	divisor := divisorOf(num, den)
	return api.Frac{Num: num / divisor, Den: den / divisor}
}

// isLess tells whether a fraction is less than another one.
func isLess(a, b api.Frac) bool {
	return a.Num*b.Den < b.Num*a.Den
}
