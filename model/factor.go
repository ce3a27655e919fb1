package model

import "ductility/api"

// factor is the power of each prime of a number above 0.
type factor map[int]int

// multiply multiplies the factor by a whole number above 0, to a power.
func (f factor) multiply(n, power int) {
	for prime := 2; n > 1; prime++ {
		for n%prime == 0 {
			f[prime] += power
			n /= prime
		}
	}
}

// part returns the product of all primes with powers of one sign: 1 for the numerator, -1 for the denominator.
func (f factor) part(sign int) int {
	part := 1
	for prime, power := range f {
		for range sign * power {
			// One number stands for all that are too great: so the product fits, and the order of primes does not matter.
			part = min(part*prime, api.MaxPart+1)
		}
	}
	return part
}

// fraction returns the factor in lowest terms, or ErrLarge.
func (f factor) fraction() (api.Frac, api.Errno) {
	return limited(api.Frac{Num: f.part(1), Den: f.part(-1)})
}
