package sensor

import "ductility/api"

// watch is a watch without errors, and its watchers.
type watch struct {
	api.SensorWatch
	watchers [][]int
}

// watchOf returns a watch, or the first error of its watchers and of it.
func watchOf(watchers [][]int, x api.SensorWatch) (watch, api.Errno) {
	e := firstOf(channelsError(watchers, api.MaxSensorWatchers), watchError(x, len(watchers)))
	if e != api.OK {
		return watch{}, e
	}
	return watch{x, watchers}, api.OK
}

// votersAt returns the voters at a sample.
func (w watch) votersAt(sample int) []int {
	var voters []int
	for watcher, raw := range w.watchers {
		if isBeyond(w.Limit, raw[sample]) {
			voters = append(voters, watcher)
		}
	}
	return voters
}

// TrippedIn returns the first sample at which a watch is tripped.
func TrippedIn(watchers [][]int, x api.SensorWatch) (int, api.Errno) {
	checked, e := watchOf(watchers, x)
	if e != api.OK {
		return 0, e
	}
	held := 0
	for sample := range watchers[0] {
		held++
		if len(checked.votersAt(sample)) < x.Need {
			held = 0
		}
		if held == x.Hold {
			return sample, api.OK
		}
	}
	return 0, api.ErrNone
}

// VotersAt returns the voters at a sample.
func VotersAt(watchers [][]int, x api.SensorWatch, sample int) ([]int, api.Errno) {
	checked, e := watchOf(watchers, x)
	if e != api.OK {
		return nil, e
	}
	if !areWithin(0, len(watchers[0])-1, sample) {
		return nil, api.ErrMissing
	}
	return checked.votersAt(sample), api.OK
}
