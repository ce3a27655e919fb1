package sensor

import (
	"slices"

	"ductility/api"
)

// CheckRaw returns the error of raw samples, with the index of the sample.
func CheckRaw(raw []int) (int, api.Errno) {
	if e := countError(len(raw), api.MaxSensorSamples); e != api.OK {
		return 0, e
	}
	return checkItems(raw, func(_, sample int) api.Errno {
		return when(isBeyond(api.MaxSensorRaw, sample), api.ErrRange)
	})
}

// groupsOf returns the largest ranges of neighbouring samples each of which is like the one before.
func groupsOf(raw []int, areLike func(a, b int) bool) []api.Range {
	var groups []api.Range
	first := 0
	for i, sample := range raw {
		isLast := i == len(raw)-1
		if isLast || !areLike(sample, raw[i+1]) {
			groups = append(groups, api.Range{Lo: first, Hi: i})
			first = i + 1
		}
	}
	return groups
}

// ClippedIn returns all ranges of samples that do not lie inside of limits.
func ClippedIn(raw []int, limits api.Range) ([]api.Range, api.Errno) {
	isOutside := isBeyond(api.MaxSensorRaw, limits.Lo, limits.Hi)
	isInDisorder := limits.Lo > limits.Hi
	if e := firstOf(rawError(raw), when(isOutside, api.ErrRange), when(isInDisorder, api.ErrOrder)); e != api.OK {
		return nil, e
	}
	isInside := func(sample int) bool { return limits.Lo < sample && sample < limits.Hi }
	groups := groupsOf(raw, func(a, b int) bool { return isInside(a) == isInside(b) })
	return slices.DeleteFunc(groups, func(r api.Range) bool { return isInside(raw[r.Lo]) }), api.OK
}

// StuckIn returns all ranges of at least so many samples that are equal.
func StuckIn(raw []int, length int) ([]api.Range, api.Errno) {
	isOutside := !areWithin(2, api.MaxSensorSamples, length)
	if e := firstOf(rawError(raw), when(isOutside, api.ErrRange)); e != api.OK {
		return nil, e
	}
	groups := groupsOf(raw, func(a, b int) bool { return a == b })
	return slices.DeleteFunc(groups, func(r api.Range) bool { return r.Hi-r.Lo+1 < length }), api.OK
}

// sumAt returns the sum of the products of two channels at a shift.
func sumAt(a, b []int, shift int) int {
	sum := 0
	for i, sample := range a {
		if areWithin(0, len(b)-1, i+shift) {
			sum += sample * b[i+shift]
		}
	}
	return sum
}

// ShiftOf returns the shift between two channels.
func ShiftOf(a, b []int, most int) (int, api.Errno) {
	isOutside := !areWithin(0, api.MaxSensorShift, most)
	if e := firstOf(bothError(a, b), when(isOutside, api.ErrRange)); e != api.OK {
		return 0, e
	}
	best, greatest := 0, sumAt(a, b, 0)
	for size := 1; size <= most; size++ {
		// The order decides between equal sums.
		for _, shift := range []int{-size, size} {
			if sum := sumAt(a, b, shift); sum > greatest {
				best, greatest = shift, sum
			}
		}
	}
	return best, api.OK
}

// curvesOf returns the curves at all inner samples, the first of which has the index 1.
func curvesOf(raw []int) []int {
	var curves []int
	for i := 1; i < len(raw)-1; i++ {
		curves = append(curves, raw[i-1]-2*raw[i]+raw[i+1])
	}
	return curves
}

// CurvesOf returns the curves at all inner samples.
func CurvesOf(raw []int) ([]int, api.Errno) {
	curves := curvesOf(raw)
	if e := firstOf(rawError(raw), when(len(curves) == 0, api.ErrNone)); e != api.OK {
		return nil, e
	}
	return curves, api.OK
}

// StrangeIn returns all samples at which places and accelerations contradict each other.
func StrangeIn(places, accelerations []int, off int) ([]int, api.Errno) {
	isOutside := !areWithin(0, api.MaxSensorOff, off)
	if e := firstOf(bothError(places, accelerations), when(isOutside, api.ErrRange)); e != api.OK {
		return nil, e
	}
	var strange []int
	for i, curve := range curvesOf(places) {
		sample := i + 1
		if isBeyond(off, curve-accelerations[sample]) {
			strange = append(strange, sample)
		}
	}
	return strange, api.OK
}
