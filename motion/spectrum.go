package motion

import "ductility/api"

// responseOf returns the response of an oscillator to samples.
func responseOf(samples []int, o api.MotionOscillator) []int {
	var response []int
	now, before := 0, 0
	for _, a := range samples {
		pull := (o.Stiff*now + o.Damp*(now-before)) / api.MotionUnit
		now, before = 2*now-before-pull-a, now
		response = append(response, now)
	}
	return response
}

// outsideOf returns the indexes at which samples are outside of a band.
func outsideOf(samples []int, band []api.MotionBand) []int {
	var outside []int
	for i, row := range band {
		if !areWithin(row.Peak.Lo, row.Peak.Hi, peakOf(responseOf(samples, row.Oscillator))) {
			outside = append(outside, i)
		}
	}
	return outside
}

// ResponseOf returns the response of an oscillator to a record.
func ResponseOf(r api.MotionRecord, o api.MotionOscillator) ([]int, api.Errno) {
	if e := firstOf(recordError(r), oscillatorError(o)); e != api.OK {
		return nil, e
	}
	return responseOf(r.Samples, o), api.OK
}

// SpectrumOf returns the peak of each oscillator.
func SpectrumOf(r api.MotionRecord, l []api.MotionOscillator) ([]int, api.Errno) {
	if e := firstOf(recordError(r), oscillatorsError(l)); e != api.OK {
		return nil, e
	}
	var spectrum []int
	for _, o := range l {
		spectrum = append(spectrum, peakOf(responseOf(r.Samples, o)))
	}
	return spectrum, api.OK
}

// OutsideOf returns the indexes at which a record is outside of a band.
func OutsideOf(r api.MotionRecord, band []api.MotionBand) ([]int, api.Errno) {
	if e := firstOf(recordError(r), bandError(band)); e != api.OK {
		return nil, e
	}
	return outsideOf(r.Samples, band), api.OK
}
