package sensor

import "ductility/api"

// divisorOf returns the greatest number that divides all of some numbers, 0 if all are 0.
func divisorOf(first int, further ...int) int {
	divisor := first
	for _, n := range further {
		for n != 0 {
			divisor, n = n, divisor%n
		}
	}
	return max(divisor, -divisor)
}

// fraction returns a quotient in lowest terms; the denominator is above 0.
func fraction(num, den int) api.Frac {
	divisor := divisorOf(den, num)
	return api.Frac{Num: num / divisor, Den: den / divisor}
}

// minus returns a fraction minus another one.
func minus(a, b api.Frac) api.Frac {
	return fraction(a.Num*b.Den-b.Num*a.Den, a.Den*b.Den)
}

// down returns a quotient rounded down; the denominator is above 0.
func down(num, den int) int {
	if num%den < 0 {
		return num/den - 1
	}
	return num / den
}

// up returns a quotient rounded up; the denominator is above 0.
func up(num, den int) int { return -down(-num, den) }
