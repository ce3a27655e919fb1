package modal

import "ductility/api"

// divisorOf returns the greatest number that divides all of some numbers, 0 if all are 0.
func divisorOf(first int, further ...int) int {
	divisor := first
	for _, n := range further {
		for n != 0 {
			divisor, n = n, divisor%n
		}
	}
	return max(divisor, -divisor)
}

// isLowest tells whether a fraction is in lowest terms.
func isLowest(x api.Frac) bool {
	return x.Den > 0 && divisorOf(x.Den, x.Num) == 1
}

// fraction returns a quotient in lowest terms; the denominator is above 0.
func fraction(num, den int) api.Frac {
	divisor := divisorOf(den, num)
	return api.Frac{Num: num / divisor, Den: den / divisor}
}

// shape returns parts that are divided by a number above 0, in lowest terms.
func shape(den int, parts []int) api.ModalShape {
	divisor := divisorOf(den, parts...)
	lowest := api.ModalShape{Den: den / divisor}
	for _, part := range parts {
		lowest.Parts = append(lowest.Parts, part/divisor)
	}
	return lowest
}

// signOf returns the sign of a number: -1, 0 or 1.
func signOf(n int) int {
	switch {
	case n < 0:
		return -1
	case n > 0:
		return 1
	}
	return 0
}
