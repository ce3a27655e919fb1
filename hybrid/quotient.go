package hybrid

import "ductility/api"

// divisorOf returns the greatest number that divides both of two numbers, of which the first one is above 0.
func divisorOf(a, b int) int {
	for b != 0 {
		a, b = b, a%b
	}
	return max(a, -a)
}

// fraction returns a quotient in lowest terms; the denominator is above 0.
func fraction(num, den int) api.Frac {
	divisor := divisorOf(den, num)
	return api.Frac{Num: num / divisor, Den: den / divisor}
}

// plus returns the sum of two fractions.
func plus(a, b api.Frac) api.Frac {
	return fraction(a.Num*b.Den+b.Num*a.Den, a.Den*b.Den)
}

// down returns a quotient rounded down; the denominator is above 0.
func down(num, den int) int {
	if num%den < 0 {
		return num/den - 1
	}
	return num / den
}

// mixed is a whole number and a rest that is at least 0 and less than 1. There is only one for a number, and its parts are small even where those of one fraction would be too great for an int.
type mixed struct {
	whole int
	rest  api.Frac
}

// mixedOf returns a quotient as a mixed number; the denominator is above 0.
func mixedOf(num, den int) mixed {
	whole := down(num, den)
	return mixed{whole, fraction(num-whole*den, den)}
}

// minus returns a mixed number minus another one.
func (a mixed) minus(b mixed) mixed {
	rest := mixedOf(a.rest.Num*b.rest.Den-b.rest.Num*a.rest.Den, a.rest.Den*b.rest.Den)
	return mixed{a.whole - b.whole + rest.whole, rest.rest}
}
