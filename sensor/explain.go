package sensor

import "ductility/api"

// loose is the source of a channel that measures nothing.
const loose = -1

// explanation is an explanation without errors, of all channels or of the first ones.
type explanation struct{ api.SensorExplanation }

// explanationOf returns an explanation of so many channels, or the first error of it.
func explanationOf(x api.SensorExplanation, channels int) (explanation, api.Errno) {
	if len(x.Sources) != channels || len(x.Reversed) != channels {
		return explanation{}, api.ErrShape
	}
	_, e := checkItems(x.Sources, func(channel, source int) api.Errno {
		return sourceError(x.Sources[:channel], source, x.Reversed[channel], channels)
	})
	if e != api.OK {
		return explanation{}, e
	}
	return explanation{x}, api.OK
}

// with returns a copy of an explanation that has a further channel.
func (x explanation) with(source int, isReversed bool) explanation {
	channel := len(x.Sources)
	sources, reversed := make([]int, channel+1), make([]bool, channel+1)
	copy(sources, x.Sources)
	copy(reversed, x.Reversed)
	sources[channel], reversed[channel] = source, isReversed
	return explanation{api.SensorExplanation{Sources: sources, Reversed: reversed}}
}

// cost returns the cost of an explanation.
func (x explanation) cost() int {
	cost := 0
	for channel, source := range x.Sources {
		// No channel has the index of a loose one: this counts it, too.
		if source != channel {
			cost++
		}
		if x.Reversed[channel] {
			cost++
		}
	}
	return cost
}

// turned returns a sample, or its opposite.
func turned(sample int, isReversed bool) int {
	if isReversed {
		return -sample
	}
	return sample
}

// undone returns the signals of channels.
func (x explanation) undone(measured [][]int) [][]int {
	signals := make([][]int, len(measured))
	for signal := range signals {
		signals[signal] = make([]int, len(measured[signal]))
	}
	for channel, source := range x.Sources {
		if source == loose {
			continue
		}
		for i, sample := range measured[channel] {
			signals[source][i] = turned(sample, x.Reversed[channel])
		}
	}
	return signals
}

// trial is the truth, and what channels measured of it, without errors.
type trial struct {
	api.SensorTruth
	measured [][]int
}

// trialOf returns a trial, or the first error of its truth and of its channels.
func trialOf(x api.SensorTruth, measured [][]int) (trial, api.Errno) {
	if _, e := CheckTruth(x); e != api.OK {
		return trial{}, e
	}
	_, e := checkSamples(measured, len(x.Signals[0]))
	if e = firstOf(when(len(measured) != len(x.Signals), api.ErrShape), e); e != api.OK {
		return trial{}, e
	}
	return trial{x, measured}, api.OK
}

// fits tells whether a channel measured a signal, or nothing if it is loose.
func (t trial) fits(channel, source int, isReversed bool) bool {
	for i, sample := range t.measured[channel] {
		wanted := 0
		if source != loose {
			wanted = turned(t.Signals[source][i], isReversed)
		}
		if isBeyond(t.Off, sample-wanted) {
			return false
		}
	}
	return true
}

// isExplained tells whether an explanation holds.
func (t trial) isExplained(x explanation) bool {
	for channel, source := range x.Sources {
		if !t.fits(channel, source, x.Reversed[channel]) {
			return false
		}
	}
	return true
}

// explanations yields all explanations that hold, the lexicographically first one first.
func (t trial) explanations(yield func(x explanation) bool) {
	t.extend(explanation{}, yield)
}

// extend yields all explanations that hold and begin with one, and tells whether more of them are wanted.
func (t trial) extend(x explanation, yield func(x explanation) bool) bool {
	channel := len(x.Sources)
	if channel == len(t.measured) {
		return yield(x)
	}
	for source := loose; source < len(t.Signals); source++ {
		for _, isReversed := range []bool{false, true} {
			isPossible := sourceError(x.Sources, source, isReversed, len(t.measured)) == api.OK
			if !isPossible || !t.fits(channel, source, isReversed) {
				continue
			}
			if !t.extend(x.with(source, isReversed), yield) {
				return false
			}
		}
	}
	return true
}

// CheckTruth returns the error of the truth, with the index of the signal.
func CheckTruth(x api.SensorTruth) (int, api.Errno) {
	isOutside := !areWithin(0, api.MaxSensorOff, x.Off)
	index, e := checkChannels(x.Signals, api.MaxSensorChannels)
	return index, firstOf(e, when(isOutside, api.ErrRange))
}

// ExplanationOf returns the explanation of what channels measured, and its cost.
func ExplanationOf(x api.SensorTruth, measured [][]int) (api.SensorExplanation, int, api.Errno) {
	checked, e := trialOf(x, measured)
	if e != api.OK {
		return api.SensorExplanation{}, 0, e
	}
	var best explanation
	for further := range checked.explanations {
		// Of equal costs the one that comes first stays.
		isFirst := len(best.Sources) == 0
		if isFirst || further.cost() < best.cost() {
			best = further
		}
	}
	if len(best.Sources) == 0 {
		return api.SensorExplanation{}, 0, api.ErrNone
	}
	return best.SensorExplanation, best.cost(), api.OK
}

// CheckExplanation accepts an explanation that holds, and returns its cost.
func CheckExplanation(x api.SensorTruth, measured [][]int, e api.SensorExplanation) (int, api.Errno) {
	checked, err := trialOf(x, measured)
	if err != api.OK {
		return 0, err
	}
	explained, err := explanationOf(e, len(measured))
	if err != api.OK {
		return 0, err
	}
	if !checked.isExplained(explained) {
		return 0, api.ErrProof
	}
	return explained.cost(), api.OK
}

// Undone returns the signals that an explanation finds in channels.
func Undone(measured [][]int, e api.SensorExplanation) ([][]int, api.Errno) {
	if err := channelsError(measured, api.MaxSensorChannels); err != api.OK {
		return nil, err
	}
	explained, err := explanationOf(e, len(measured))
	if err != api.OK {
		return nil, err
	}
	return explained.undone(measured), api.OK
}
