package sensor

import (
	"slices"

	"ductility/api"
)

// firstOf returns the first of several errors, and OK if there is none.
func firstOf(errors ...api.Errno) api.Errno {
	for _, e := range errors {
		if e != api.OK {
			return e
		}
	}
	return api.OK
}

// when returns an error if it applies, otherwise OK.
func when(applies bool, e api.Errno) api.Errno {
	if applies {
		return e
	}
	return api.OK
}

// checkItems returns the first error of the items, and the index of its item.
func checkItems[T any](items []T, errorOf func(i int, item T) api.Errno) (int, api.Errno) {
	for i, item := range items {
		if e := errorOf(i, item); e != api.OK {
			return i, e
		}
	}
	return 0, api.OK
}

// areWithin tells whether all of some numbers lie in a range.
func areWithin(lo, hi int, numbers ...int) bool {
	for _, n := range numbers {
		if n < lo || n > hi {
			return false
		}
	}
	return true
}

// isBeyond tells whether one of the numbers is greater in size than a limit.
func isBeyond(limit int, numbers ...int) bool {
	// The size of the smallest int is no int: its negative would not do here.
	return !areWithin(-limit, limit, numbers...)
}

// countError returns the error of a list that has no items, or too many.
func countError(count, most int) api.Errno {
	return firstOf(when(count == 0, api.ErrShape), when(count > most, api.ErrLarge))
}

// pairsError returns the error of pairs.
func pairsError(l []api.SensorPair) api.Errno {
	_, e := checkItems(l, func(_ int, pair api.SensorPair) api.Errno {
		return when(isBeyond(api.MaxSensorKnown, pair.Known, pair.Raw), api.ErrRange)
	})
	return firstOf(countError(len(l), api.MaxSensorPairs), e)
}

// slopeError returns the error of pairs through which no only line is the nearest one.
func slopeError(l []api.SensorPair) api.Errno {
	isSloped := slices.ContainsFunc(l, func(pair api.SensorPair) bool { return pair.Raw != l[0].Raw })
	return when(!isSloped, api.ErrZero)
}

// rawError returns the error of raw samples.
func rawError(raw []int) api.Errno {
	_, e := CheckRaw(raw)
	return e
}

// bothError returns the error of two channels that are to have as many samples.
func bothError(a, b []int) api.Errno {
	return firstOf(rawError(a), rawError(b), when(len(a) != len(b), api.ErrClash))
}

// checkSamples returns the error of channels of so many samples, and the index of its channel.
func checkSamples(channels [][]int, samples int) (int, api.Errno) {
	return checkItems(channels, func(_ int, raw []int) api.Errno {
		return firstOf(rawError(raw), when(len(raw) != samples, api.ErrClash))
	})
}

// checkChannels returns the error of at most so many channels by themselves, and the index of its channel.
func checkChannels(channels [][]int, most int) (int, api.Errno) {
	if e := countError(len(channels), most); e != api.OK {
		return 0, e
	}
	return checkSamples(channels, len(channels[0]))
}

// channelsError returns the error of at most so many channels by themselves.
func channelsError(channels [][]int, most int) api.Errno {
	_, e := checkChannels(channels, most)
	return e
}

// sourceError returns the error of what one of so many channels has, for the sources of the channels before it.
func sourceError(before []int, source int, isReversed bool, channels int) api.Errno {
	isLoose := source == loose
	isTaken := !isLoose && slices.Contains(before, source)
	return firstOf(
		when(!isLoose && !areWithin(0, channels-1, source), api.ErrMissing),
		when(isTaken, api.ErrDouble),
		when(isLoose && isReversed, api.ErrForm))
}

// watchError returns the error of a watch for so many watchers.
func watchError(x api.SensorWatch, watchers int) api.Errno {
	isInside := areWithin(0, api.MaxSensorRaw, x.Limit) &&
		areWithin(1, watchers, x.Need) &&
		areWithin(1, api.MaxSensorSamples, x.Hold)
	return when(!isInside, api.ErrRange)
}

// imageError returns the error of an image: the shape of all rows comes before the range of any pixel.
func imageError(image [][]int) api.Errno {
	if len(image) == 0 {
		return api.ErrShape
	}
	width := len(image[0])
	_, shapeError := checkItems(image, func(_ int, row []int) api.Errno {
		return when(len(row) == 0 || len(row) != width, api.ErrShape)
	})
	_, rangeError := checkItems(image, func(_ int, row []int) api.Errno {
		return when(!areWithin(0, api.MaxSensorPixel, row...), api.ErrRange)
	})
	isBright := slices.ContainsFunc(image, func(row []int) bool { return !areWithin(0, 0, row...) })
	return firstOf(
		shapeError,
		when(len(image) > api.MaxSensorSide || width > api.MaxSensorSide, api.ErrLarge),
		rangeError,
		when(!isBright, api.ErrZero))
}
