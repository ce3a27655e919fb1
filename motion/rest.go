package motion

import "ductility/api"

// pricesFor returns the prices of the rest of samples.
//
// The changes p + q k, for k from 1 to n, are to take away the end: p n + q first is minus the velocity, and
// p first + q second minus the displacement, where first and second are the sums of all k and of their squares.
func pricesFor(samples []int) api.MotionPrices {
	n, end := len(samples), endOf(samples)
	first := n * (n + 1) / 2
	second := n * (n + 1) * (2*n + 1) / 6
	x := lowest(n*second-first*first,
		first*end.Displacement-second*end.Velocity,
		first*end.Velocity-n*end.Displacement)
	return api.MotionPrices{Den: x.Den, Velocity: x.Parts[0], Displacement: x.Parts[1]}
}

// changeBy returns by how much prices change a sample from which so many samples are left, times their denominator.
func changeBy(p api.MotionPrices, left int) int {
	return p.Velocity + p.Displacement*left
}

// RestOf returns the numbers that end at rest and are nearest to a record.
func RestOf(r api.MotionRecord) (api.MotionParts, api.Errno) {
	if e := recordError(r); e != api.OK {
		return api.MotionParts{}, e
	}
	p := pricesFor(r.Samples)
	var parts []int
	for t, a := range r.Samples {
		parts = append(parts, a*p.Den+changeBy(p, len(r.Samples)-t))
	}
	return lowest(p.Den, parts...), api.OK
}

// PricesOf returns the prices of the rest of a record.
func PricesOf(r api.MotionRecord) (api.MotionPrices, api.Errno) {
	if e := recordError(r); e != api.OK {
		return api.MotionPrices{}, e
	}
	return pricesFor(r.Samples), api.OK
}

// CheckRest accepts the rest of a record with its prices, otherwise it returns what is wrong with it, and where.
func CheckRest(r api.MotionRecord, x api.MotionParts, p api.MotionPrices) (int, api.Errno) {
	if e := firstOf(recordError(r), partsError(x, len(r.Samples)), pricesError(p)); e != api.OK {
		return 0, e
	}
	end := endOf(x.Parts)
	if end.Velocity != 0 {
		return 0, api.ErrOpen
	}
	if end.Displacement != 0 {
		return 1, api.ErrOpen
	}
	return checkItems(r.Samples, func(t, a int) api.Errno {
		// Lowest terms are compared: products with the other denominator would be too great for int.
		change := fraction(x.Parts[t]-a*x.Den, x.Den)
		return when(change != fraction(changeBy(p, len(r.Samples)-t), p.Den), api.ErrProof)
	})
}
