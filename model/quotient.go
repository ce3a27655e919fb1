package model

import "ductility/api"

// sizeOf returns the size of a number.
func sizeOf(n int) int {
	return max(n, -n)
}

// divisorOf returns the greatest number that divides both of two numbers, 0 if both are 0.
func divisorOf(a, b int) int {
	for b != 0 {
		a, b = b, a%b
	}
	return sizeOf(a)
}

// isLowest tells whether a fraction is in lowest terms.
func isLowest(x api.Frac) bool {
	return x.Den > 0 && divisorOf(x.Num, x.Den) == 1
}

// fraction returns a quotient in lowest terms; the denominator is above 0.
func fraction(num, den int) api.Frac {
	divisor := divisorOf(num, den)
	return api.Frac{Num: num / divisor, Den: den / divisor}
}

// limited returns a fraction, or ErrLarge if a part of it is too great.
func limited(x api.Frac) (api.Frac, api.Errno) {
	if isBeyond(api.MaxPart, x.Num, x.Den) {
		return api.Frac{}, api.ErrLarge
	}
	return x, api.OK
}

// product returns the product of two fractions with parts of at most MaxPart, or ErrLarge.
func product(a, b api.Frac) (api.Frac, api.Errno) {
	return limited(fraction(a.Num*b.Num, a.Den*b.Den))
}

// inverse returns 1 divided by a fraction above 0.
func inverse(x api.Frac) api.Frac {
	return api.Frac{Num: x.Den, Den: x.Num}
}

// divided returns a quotient rounded down, and what it leaves, from 0 on; the divisor is above 0.
func divided(n, divisor int) (int, int) {
	rest := n % divisor
	if rest < 0 {
		rest += divisor
	}
	return (n - rest) / divisor, rest
}
