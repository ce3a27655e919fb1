package modal

import (
	"slices"

	"ductility/api"
)

// decay is a decay without errors.
type decay struct{ api.ModalDecay }

// decayOf returns a decay, or the first error of it.
func decayOf(x api.ModalDecay) (decay, api.Errno) {
	isOutside := !areWithin(0, api.MaxModalSample, x.Off)
	if e := firstOf(
		countError(len(x.Samples), api.MaxModalSamples),
		limitError(api.MaxModalSample, x.Samples...),
		when(isOutside, api.ErrRange)); e != api.OK {
		return decay{}, e
	}
	return decay{x}, api.OK
}

// crossings returns all crossings.
func (x decay) crossings() []api.Range {
	const nowhere = -1
	var crossings []api.Range
	below := nowhere
	for i, sample := range x.Samples {
		if sample < -x.Off {
			below = i
		}
		if sample > x.Off && below != nowhere {
			crossings = append(crossings, api.Range{Lo: below, Hi: i})
			below = nowhere
		}
	}
	return crossings
}

// swings returns the ranges of all swings.
func (x decay) swings() []api.Range {
	var swings []api.Range
	crossings := x.crossings()
	for i := range len(crossings) - 1 {
		greatest := slices.Max(x.Samples[crossings[i].Hi : crossings[i+1].Lo+1])
		swings = append(swings, api.Range{Lo: greatest - x.Off, Hi: greatest + x.Off})
	}
	return swings
}

// CrossingsIn returns all crossings of a decay, as ranges of indexes.
func CrossingsIn(x api.ModalDecay) ([]api.Range, api.Errno) {
	checked, e := decayOf(x)
	if e != api.OK {
		return nil, e
	}
	return checked.crossings(), api.OK
}

// PeriodIn returns the period of a decay.
func PeriodIn(x api.ModalDecay) (api.Span, api.Errno) {
	checked, e := decayOf(x)
	if e != api.OK {
		return api.Span{}, e
	}
	crossings := checked.crossings()
	periods := len(crossings) - 1
	if periods < 1 {
		return api.Span{}, api.ErrNone
	}
	first, last := crossings[0], crossings[periods]
	return api.Span{Lo: fraction(last.Lo-first.Hi, periods), Hi: fraction(last.Hi-first.Lo, periods)}, api.OK
}

// SwingsIn returns the ranges of all swings of a decay.
func SwingsIn(x api.ModalDecay) ([]api.Range, api.Errno) {
	checked, e := decayOf(x)
	if e != api.OK {
		return nil, e
	}
	return checked.swings(), api.OK
}

// RatioIn returns the ratio of a decay.
func RatioIn(x api.ModalDecay) (api.Span, api.Errno) {
	checked, e := decayOf(x)
	if e != api.OK {
		return api.Span{}, e
	}
	swings := checked.swings()
	if len(swings) < 2 {
		return api.Span{}, api.ErrNone
	}
	// No end is 0: each swing begins with a sample that is surely above.
	first, last := swings[0], swings[len(swings)-1]
	return api.Span{Lo: fraction(last.Lo, first.Hi), Hi: fraction(last.Hi, first.Lo)}, api.OK
}
