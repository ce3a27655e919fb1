package motion

import "ductility/api"

// leastSamples is how many samples a record has at least.
const leastSamples = 2

// firstOf returns the first of several errors, and OK if there is none.
func firstOf(errors ...api.Errno) api.Errno {
	for _, e := range errors {
		if e != api.OK {
			return e
		}
	}
	return api.OK
}

// when returns an error if it applies, otherwise OK.
func when(applies bool, e api.Errno) api.Errno {
	if applies {
		return e
	}
	return api.OK
}

// checkItems returns the first error of the items, and the index of its item.
func checkItems[T any](items []T, errorOf func(i int, item T) api.Errno) (int, api.Errno) {
	for i, item := range items {
		if e := errorOf(i, item); e != api.OK {
			return i, e
		}
	}
	return 0, api.OK
}

// areWithin tells whether all of some numbers lie in a range.
func areWithin(lo, hi int, numbers ...int) bool {
	for _, n := range numbers {
		if n < lo || n > hi {
			return false
		}
	}
	return true
}

// isBeyond tells whether one of the numbers is greater in size than a limit.
func isBeyond(limit int, numbers ...int) bool {
	return !areWithin(-limit, limit, numbers...)
}

// recordError returns the error of a record.
func recordError(r api.MotionRecord) api.Errno {
	_, e := CheckRecord(r)
	return e
}

// checkSamples returns the error of samples, and the index of the first one that is too great.
func checkSamples(samples []int) (int, api.Errno) {
	return checkItems(samples, func(_, a int) api.Errno {
		return when(isBeyond(api.MaxMotionSample, a), api.ErrRange)
	})
}

// partsError returns the error of numbers with a denominator for so many samples.
func partsError(x api.MotionParts, count int) api.Errno {
	return firstOf(
		when(!areWithin(1, api.MaxPart, x.Den), api.ErrRange),
		when(len(x.Parts) != count, api.ErrShape),
		when(isBeyond(api.MaxMotionPart, x.Parts...), api.ErrRange),
		when(!isLowest(x.Den, x.Parts...), api.ErrForm))
}

// pricesError returns the error of prices.
func pricesError(p api.MotionPrices) api.Errno {
	return firstOf(
		when(!areWithin(1, api.MaxPart, p.Den) || isBeyond(api.MaxMotionPart, p.Velocity, p.Displacement), api.ErrRange),
		when(!isLowest(p.Den, p.Velocity, p.Displacement), api.ErrForm))
}

// scaledError returns the error of samples that are to be scaled.
func scaledError(x api.MotionScaled) api.Errno {
	return firstOf(
		when(!isLowest(x.Step.Den, x.Step.Num), api.ErrForm),
		when(!areWithin(1, api.MaxPart, x.Step.Num, x.Step.Den), api.ErrRange),
		when(!areWithin(1, api.MaxPart, x.Den), api.ErrRange),
		when(len(x.Parts) > api.MaxMotionSamples, api.ErrLarge),
		when(isBeyond(api.MaxPart, x.Parts...), api.ErrRange),
		when(!isLowest(x.Den, x.Parts...), api.ErrForm))
}

// scaleError returns the error of a length and a time: the form of both comes before their ranges.
func scaleError(s api.MotionScale) api.Errno {
	return firstOf(
		when(!isLowest(s.Length.Den, s.Length.Num) || !isLowest(s.Time.Den, s.Time.Num), api.ErrForm),
		when(!areWithin(1, api.MaxMotionScale, s.Length.Num, s.Length.Den, s.Time.Num, s.Time.Den), api.ErrRange))
}

// oscillatorError returns the error of an oscillator.
func oscillatorError(o api.MotionOscillator) api.Errno {
	return firstOf(
		when(!areWithin(0, api.MaxMotionStiff, o.Stiff), api.ErrRange),
		when(!areWithin(0, api.MaxMotionDamp, o.Damp), api.ErrRange))
}

// oscillatorsError returns the error of a list of oscillators.
func oscillatorsError(l []api.MotionOscillator) api.Errno {
	if len(l) > api.MaxMotionOscillators {
		return api.ErrLarge
	}
	_, e := checkItems(l, func(_ int, o api.MotionOscillator) api.Errno { return oscillatorError(o) })
	return e
}

// bandError returns the error of a band.
func bandError(band []api.MotionBand) api.Errno {
	e := firstOf(when(len(band) == 0, api.ErrShape), when(len(band) > api.MaxMotionOscillators, api.ErrLarge))
	if e != api.OK {
		return e
	}
	_, e = checkItems(band, func(_ int, row api.MotionBand) api.Errno {
		return firstOf(
			oscillatorError(row.Oscillator),
			when(!areWithin(0, api.MaxMotionPeak, row.Peak.Lo, row.Peak.Hi), api.ErrRange),
			when(row.Peak.Lo > row.Peak.Hi, api.ErrOrder))
	})
	return e
}

// wavesError returns the error of waves for so many samples.
func wavesError(waves [][]int, count int) api.Errno {
	if len(waves) > api.MaxMotionWaves {
		return api.ErrLarge
	}
	_, e := checkItems(waves, func(_ int, wave []int) api.Errno {
		_, samplesError := checkSamples(wave)
		return firstOf(
			when(len(wave) != count, api.ErrShape),
			samplesError,
			when(endOf(wave) != api.MotionEnd{}, api.ErrOpen))
	})
	return e
}

// timesError returns the error of numbers of times for so many waves.
func timesError(times []int, count int) api.Errno {
	return firstOf(
		when(len(times) != count, api.ErrShape),
		when(isBeyond(api.MaxMotionTimes, times...), api.ErrRange))
}

// shareError returns the error of a share.
func shareError(share api.Frac) api.Errno {
	return firstOf(
		when(!isLowest(share.Den, share.Num), api.ErrForm),
		when(!areWithin(0, share.Den, share.Num) || share.Den > api.MaxMotionScale, api.ErrRange))
}
