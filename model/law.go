package model

import "ductility/api"

// exponents is those of length, time and force.
type exponents [3]int

// quantityError returns the error of a quantity.
func quantityError(quantity [3]int) api.Errno {
	return limitError(api.MaxModelExponent, quantity[:]...)
}

// checkQuantities returns the error of quantities, and the index of the quantity.
func checkQuantities(quantities [][3]int) (int, api.Errno) {
	if len(quantities) > api.MaxModelQuantities {
		return 0, api.ErrLarge
	}
	return checkItems(quantities, func(_ int, quantity [3]int) api.Errno { return quantityError(quantity) })
}

// checkTerms returns the error of terms for so many quantities, and the index of the term.
func checkTerms(terms [][]int, quantities int) (int, api.Errno) {
	if e := countError(len(terms), api.MaxModelTerms); e != api.OK {
		return 0, e
	}
	return checkItems(terms, func(_ int, powers []int) api.Errno {
		isUneven := len(powers) != quantities
		return firstOf(when(isUneven, api.ErrShape), limitError(api.MaxModelExponent, powers...))
	})
}

// termOf returns the exponents of a term.
func termOf(quantities [][3]int, powers []int) exponents {
	var sum exponents
	for i, quantity := range quantities {
		for k, exponent := range quantity {
			sum[k] += powers[i] * exponent
		}
	}
	return sum
}

// CheckLaw returns the error of a law, with the index of its quantity or of its term.
func CheckLaw(l api.ModelLaw) (int, api.Errno) {
	if i, e := checkQuantities(l.Quantities); e != api.OK {
		return i, e
	}
	if i, e := checkTerms(l.Terms, len(l.Quantities)); e != api.OK {
		return i, e
	}
	first := termOf(l.Quantities, l.Terms[0])
	return checkItems(l.Terms, func(_ int, powers []int) api.Errno {
		return when(termOf(l.Quantities, powers) != first, api.ErrClash)
	})
}

// lead returns the index of the first exponent that is not 0, as many as there are if there is none.
func (x exponents) lead() int {
	for i, n := range x {
		if n != 0 {
			return i
		}
	}
	return len(x)
}

// without returns the exponents without the one at the lead of others.
func (x exponents) without(other exponents) exponents {
	lead := other.lead()
	factor, otherFactor := other[lead], x[lead]
	for i := range x {
		x[i] = x[i]*factor - other[i]*otherFactor
	}
	return x
}

// RankOf returns the rank of quantities.
func RankOf(quantities [][3]int) (int, api.Errno) {
	if _, e := checkQuantities(quantities); e != api.OK {
		return 0, e
	}
	// In each of these the exponents at the leads of those before it are 0.
	var independent []exponents
	for _, quantity := range quantities {
		rest := exponents(quantity)
		for _, known := range independent {
			rest = rest.without(known)
		}
		if rest != (exponents{}) {
			independent = append(independent, rest)
		}
	}
	return len(independent), api.OK
}
