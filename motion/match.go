package motion

import (
	"iter"

	"ductility/api"
)

// timesOf yields all numbers of times of so many waves, in lexicographic order.
func timesOf(waves int) iter.Seq[[]int] {
	return func(yield func([]int) bool) {
		longer(nil, waves, yield)
	}
}

// longer yields all numbers of times that begin with some and have so many further ones; it tells whether to go on.
func longer(times []int, further int, yield func([]int) bool) bool {
	if further == 0 {
		return yield(times)
	}
	for next := -api.MaxMotionTimes; next <= api.MaxMotionTimes; next++ {
		// The full slice lets append make a new one: no two yielded ones share memory.
		if !longer(append(times[:len(times):len(times)], next), further-1, yield) {
			return false
		}
	}
	return true
}

// sizeOf returns the sum of the sizes of numbers.
func sizeOf(numbers []int) int {
	sum := 0
	for _, n := range numbers {
		sum += max(n, -n)
	}
	return sum
}

// addedTo returns a record with waves added, or ErrLarge.
func addedTo(r api.MotionRecord, waves [][]int, times []int) (api.MotionRecord, api.Errno) {
	samples := append([]int(nil), r.Samples...)
	for i, wave := range waves {
		for t, a := range wave {
			samples[t] += times[i] * a
		}
	}
	return recordOf(r.Step, samples)
}

// matchError returns ErrLarge if a record with waves added has too great a sample, ErrBreak if it is outside of a band.
func matchError(r api.MotionRecord, waves [][]int, times []int, band []api.MotionBand) api.Errno {
	sum, e := addedTo(r, waves, times)
	return firstOf(e, when(len(outsideOf(sum.Samples, band)) > 0, api.ErrBreak))
}

// Added returns a record with waves added.
func Added(r api.MotionRecord, waves [][]int, times []int) (api.MotionRecord, api.Errno) {
	if e := firstOf(recordError(r), wavesError(waves, len(r.Samples)), timesError(times, len(waves))); e != api.OK {
		return api.MotionRecord{}, e
	}
	return addedTo(r, waves, times)
}

// MatchFor returns the numbers of times of the match for waves and a band.
func MatchFor(r api.MotionRecord, waves [][]int, band []api.MotionBand) ([]int, api.Errno) {
	if e := firstOf(recordError(r), wavesError(waves, len(r.Samples)), bandError(band)); e != api.OK {
		return nil, e
	}
	var match []int
	isFound := false
	for times := range timesOf(len(waves)) {
		// Of the same size those that were found before come first.
		if isFound && sizeOf(times) >= sizeOf(match) {
			continue
		}
		if matchError(r, waves, times, band) == api.OK {
			match, isFound = times, true
		}
	}
	return match, when(!isFound, api.ErrNone)
}

// CheckMatch accepts numbers of times with which a record is outside nowhere, and returns the sum of their sizes.
func CheckMatch(r api.MotionRecord, x api.MotionMatch, band []api.MotionBand) (int, api.Errno) {
	count := len(r.Samples)
	e := firstOf(recordError(r), wavesError(x.Waves, count), timesError(x.Times, len(x.Waves)), bandError(band))
	if e != api.OK {
		return 0, e
	}
	if e := matchError(r, x.Waves, x.Times, band); e != api.OK {
		return 0, e
	}
	return sizeOf(x.Times), api.OK
}
