package motion_test

import (
	"math"
	"math/rand/v2"
	"slices"
	"testing"

	"ductility/api"
	"ductility/motion"
)

// exampleWaves returns the wave of the examples.
func exampleWaves() [][]int { return [][]int{{1, -2, 1, 0}} }

// wide returns a band in which every record is.
func wide() []api.MotionBand {
	return []api.MotionBand{{Peak: api.Range{Lo: 0, Hi: api.MaxMotionPeak}}}
}

// ofPeak returns a band of one oscillator without forces, whose peak is given.
func ofPeak(peak int) []api.MotionBand {
	return []api.MotionBand{{Peak: api.Range{Lo: peak, Hi: peak}}}
}

// P2.6, example 6
func TestAdded(t *testing.T) {
	for _, x := range []struct {
		name  string
		waves [][]int
		times []int
		want  []int
	}{
		{"example", exampleWaves(), []int{-1}, []int{0, 2, -2, 2}},
		{"the other way", exampleWaves(), []int{1}, []int{2, -2, 0, 2}},
		{"no waves", nil, nil, []int{1, 0, -1, 2}},
		{"empty waves", [][]int{}, []int{}, []int{1, 0, -1, 2}},
		{"not at all", exampleWaves(), []int{0}, []int{1, 0, -1, 2}},
		{"three waves", [][]int{{1, -2, 1, 0}, {0, 1, -2, 1}, {0, 0, 0, 0}}, []int{2, -2, 1}, []int{3, -6, 5, 0}},
		{"just not too great", [][]int{{499, -998, 499, 0}}, []int{1}, []int{500, -998, 498, 2}},
	} {
		want := api.MotionRecord{Step: 10, Samples: x.want}
		if r, e := motion.Added(exampleRecord(), x.waves, x.times); !areSame(r, want) || e != api.OK {
			t.Error(x.name, r, e)
		}
	}
}

// badWave is waves with an error.
type badWave struct {
	name  string
	waves [][]int
	want  api.Errno
}

// badWaves lists all errors of waves for four samples; each has errors that are listed later, or stand in later waves, too.
func badWaves() []badWave {
	return []badWave{
		{"four waves", [][]int{nil, nil, nil, nil}, api.ErrLarge},
		{"no samples", [][]int{nil, {1001, 0, 0, 0}}, api.ErrShape},
		{"too few samples", [][]int{{1, -2, 1}}, api.ErrShape},
		{"too many samples", [][]int{{1, -2, 1, 0, 1001}}, api.ErrShape},
		{"sample above", [][]int{{1001, 0, 0, 0}, nil}, api.ErrRange},
		{"sample below", [][]int{{0, 0, 0, -1001}}, api.ErrRange},
		{"smallest sample", [][]int{{0, 0, math.MinInt, math.MinInt}}, api.ErrRange},
		{"not still", [][]int{{1, -2, 2, 0}, nil}, api.ErrOpen},
		{"not back", [][]int{{0, 0, 0, 0}, {1, -1, 0, 0}, {1001, 0, 0, 0}}, api.ErrOpen},
		{"not still, with the displacement 0", [][]int{{1, -1, -1, 0}}, api.ErrOpen},
	}
}

// P2.6
func TestWaveErrors(t *testing.T) {
	checkRecordErrors(t, "added", func(r api.MotionRecord) api.Errno {
		_, e := motion.Added(r, make([][]int, 4), nil)
		return e
	})
	checkRecordErrors(t, "match", func(r api.MotionRecord) api.Errno {
		_, e := motion.MatchFor(r, make([][]int, 4), nil)
		return e
	})
	checkRecordErrors(t, "checked match", func(r api.MotionRecord) api.Errno {
		_, e := motion.CheckMatch(r, api.MotionMatch{Waves: make([][]int, 4)}, nil)
		return e
	})
	for _, x := range badWaves() {
		if r, e := motion.Added(exampleRecord(), x.waves, nil); !isNothing(r) || e != x.want {
			t.Error(x.name, r, e)
		}
		if l, e := motion.MatchFor(exampleRecord(), x.waves, nil); len(l) != 0 || e != x.want {
			t.Error(x.name, l, e)
		}
		if n, e := motion.CheckMatch(exampleRecord(), api.MotionMatch{Waves: x.waves}, nil); n != 0 || e != x.want {
			t.Error(x.name, n, e)
		}
	}
}

// P2.6
func TestTimesErrors(t *testing.T) {
	two := [][]int{{1, -2, 1, 0}, {0, 1, -2, 1}}
	for _, x := range []struct {
		name  string
		times []int
		want  api.Errno
	}{
		{"none", nil, api.ErrShape},
		{"too few", []int{3}, api.ErrShape},
		{"too many", []int{0, 0, 0}, api.ErrShape},
		{"above", []int{3, 0}, api.ErrRange},
		{"below", []int{0, -3}, api.ErrRange},
		{"smallest", []int{math.MinInt, 0}, api.ErrRange},
	} {
		if r, e := motion.Added(exampleRecord(), two, x.times); !isNothing(r) || e != x.want {
			t.Error(x.name, r, e)
		}
		if n, e := motion.CheckMatch(exampleRecord(), api.MotionMatch{Waves: two, Times: x.times}, nil); n != 0 || e != x.want {
			t.Error(x.name, n, e)
		}
	}
	if r, e := motion.Added(exampleRecord(), nil, []int{0}); !isNothing(r) || e != api.ErrShape {
		t.Error("times without waves", r, e)
	}
}

// P2.6: the second sample would be -1001 or -2001, or is 999.
func TestTooGreatSums(t *testing.T) {
	r, great := api.MotionRecord{Step: 1, Samples: []int{1, -1, 0, 0}}, [][]int{{500, -1000, 500, 0}}
	for _, x := range []struct {
		times                []int
		want, outsideOfABand api.Errno
	}{
		{[]int{1}, api.ErrLarge, api.ErrLarge},
		{[]int{2}, api.ErrLarge, api.ErrLarge},
		{[]int{-1}, api.OK, api.ErrBreak},
	} {
		if got, e := motion.Added(r, great, x.times); e != x.want || e != api.OK && !isNothing(got) {
			t.Error(x.times, got, e)
		}
		match := api.MotionMatch{Waves: great, Times: x.times}
		if n, e := motion.CheckMatch(r, match, wide()); e != x.want || e != api.OK && n != 0 {
			t.Error(x.times, n, e)
		}
		if n, e := motion.CheckMatch(r, match, ofPeak(77)); n != 0 || e != x.outsideOfABand {
			t.Error(x.times, n, e)
		}
	}
}

// P2.6, example 6
func TestMatches(t *testing.T) {
	tall := [][]int{{300, -600, 300, 0}}
	for _, x := range []struct {
		name  string
		r     api.MotionRecord
		waves [][]int
		band  []api.MotionBand
		want  []int
		e     api.Errno
	}{
		{"example", exampleRecord(), exampleWaves(), exampleBand(), []int{-1}, api.OK},
		{"nothing to do", exampleRecord(), exampleWaves(), wide(), []int{0}, api.OK},
		{"no waves", exampleRecord(), nil, wide(), nil, api.OK},
		{"no waves, outside", exampleRecord(), nil, exampleBand(), nil, api.ErrNone},
		{"none", exampleRecord(), exampleWaves(), ofPeak(77), nil, api.ErrNone},
		{"twice", zeros(4), exampleWaves(), ofPeak(2), []int{-2}, api.OK},
		{"one wave twice before two waves", zeros(4), [][]int{{1, -2, 1, 0}, {1, -2, 1, 0}}, ofPeak(2), []int{-2, 0}, api.OK},
		{"as few as can be before the first ones", zeros(4), [][]int{{1, -2, 1, 0}, {2, -4, 2, 0}}, ofPeak(2), []int{0, -1}, api.OK},
		{"three waves", zeros(4), [][]int{{1, -2, 1, 0}, {1, -2, 1, 0}, {1, -2, 1, 0}}, ofPeak(6), []int{-2, -2, -2}, api.OK},
		{"none is three times", zeros(4), exampleWaves(), ofPeak(3), nil, api.ErrNone},
		{"greatest samples", zeros(4), tall, ofPeak(300), []int{-1}, api.OK},
		{"too great samples", zeros(4), tall, ofPeak(600), nil, api.ErrNone},
		{"too great samples, smaller ones further on", zeros(4), [][]int{{300, -600, 300, 0}, {300, -300, -300, 300}}, ofPeak(600), []int{-1, -1}, api.OK},
	} {
		l, e := motion.MatchFor(x.r, x.waves, x.band)
		if !slices.Equal(l, x.want) || e != x.e {
			t.Error(x.name, l, e)
		}
	}
}

// P2.6
func TestMatchErrors(t *testing.T) {
	for _, x := range badBands() {
		if l, e := motion.MatchFor(exampleRecord(), exampleWaves(), x.band); len(l) != 0 || e != x.want {
			t.Error(x.name, l, e)
		}
		match := api.MotionMatch{Waves: exampleWaves(), Times: []int{-1}}
		if n, e := motion.CheckMatch(exampleRecord(), match, x.band); n != 0 || e != x.want {
			t.Error(x.name, n, e)
		}
	}
	tall := api.MotionMatch{Waves: [][]int{{500, -1000, 500, 0}}, Times: []int{2}}
	if n, e := motion.CheckMatch(exampleRecord(), tall, nil); n != 0 || e != api.ErrShape {
		t.Error("the band before the samples", n, e)
	}
}

// P2.6, example 6
func TestCheckMatch(t *testing.T) {
	two := [][]int{{1, -2, 1, 0}, {0, 1, -2, 1}}
	for _, x := range []struct {
		name  string
		match api.MotionMatch
		band  []api.MotionBand
		size  int
		want  api.Errno
	}{
		{"example", api.MotionMatch{Waves: exampleWaves(), Times: []int{-1}}, exampleBand(), 1, api.OK},
		{"would do, too", api.MotionMatch{Waves: exampleWaves(), Times: []int{1}}, exampleBand(), 1, api.OK},
		{"not at all", api.MotionMatch{Waves: exampleWaves(), Times: []int{0}}, exampleBand(), 0, api.ErrBreak},
		{"no waves", api.MotionMatch{}, wide(), 0, api.OK},
		{"no waves, outside", api.MotionMatch{}, exampleBand(), 0, api.ErrBreak},
		{"both signs", api.MotionMatch{Waves: two, Times: []int{-2, 1}}, wide(), 3, api.OK},
	} {
		if n, e := motion.CheckMatch(exampleRecord(), x.match, x.band); n != x.size || e != x.want {
			t.Error(x.name, n, e)
		}
	}
}

// someTimes returns numbers of times for so many waves.
func someTimes(random *rand.Rand, waves int) []int {
	var times []int
	for range waves {
		times = append(times, within(random, api.MaxMotionTimes))
	}
	return times
}

// bandAround returns a band in which a record is.
func bandAround(random *rand.Rand, r api.MotionRecord) []api.MotionBand {
	var oscillators []api.MotionOscillator
	for range 1 + random.IntN(3) {
		oscillators = append(oscillators, someOscillator(random))
	}
	spectrum, _ := motion.SpectrumOf(r, oscillators)
	var band []api.MotionBand
	for i, peak := range spectrum {
		band = append(band, api.MotionBand{Oscillator: oscillators[i], Peak: api.Range{Lo: max(0, peak-random.IntN(3)), Hi: peak + random.IntN(3)}})
	}
	return band
}

// leastTimes returns the match by asking for all numbers of times.
func leastTimes(r api.MotionRecord, waves [][]int, band []api.MotionBand) []int {
	least, isFound := []int(nil), false
	count := 1
	for range waves {
		count *= 5
	}
	for code := range count {
		var times []int
		size := 0
		for range waves {
			times = append(times, code%5-2)
			size += max(code%5-2, 2-code%5)
			code /= 5
		}
		if n, e := motion.CheckMatch(r, api.MotionMatch{Waves: waves, Times: times}, band); e != api.OK || n != size {
			continue
		}
		leastSize := 0
		for _, n := range least {
			leastSize += max(n, -n)
		}
		if !isFound || size < leastSize || size == leastSize && slices.Compare(times, least) < 0 {
			least, isFound = times, true
		}
	}
	return least
}

// P2.13
func TestMatchesAreInTheBand(t *testing.T) {
	random := fixedRandom()
	for range 150 {
		r := someRecord(random, 60)
		waves := someWaves(random, r, random.IntN(4))
		times := someTimes(random, len(waves))
		aim, e := motion.Added(r, waves, times)
		if e != api.OK {
			t.Fatal(r, waves, times, e)
		}
		if mustEnd(t, aim) != mustEnd(t, r) {
			t.Fatal("another end", r, waves, times, aim)
		}
		band := bandAround(random, aim)
		match, e := motion.MatchFor(r, waves, band)
		if e != api.OK || !slices.Equal(match, leastTimes(r, waves, band)) {
			t.Fatal(r, waves, times, band, match, e)
		}
		matched, e := motion.Added(r, waves, match)
		if e != api.OK || mustEnd(t, matched) != mustEnd(t, r) {
			t.Fatal(r, waves, match, matched, e)
		}
		if l, e := motion.OutsideOf(matched, band); len(l) != 0 || e != api.OK {
			t.Fatal(r, waves, match, band, l, e)
		}
	}
}
