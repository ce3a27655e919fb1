package motion_test

import (
	"math"
	"slices"
	"testing"

	"ductility/api"
	"ductility/motion"
)

// exampleOscillators returns the oscillators of the examples.
func exampleOscillators() []api.MotionOscillator {
	return []api.MotionOscillator{{Stiff: 1000}, {Stiff: 500}}
}

// exampleBand returns the band of the examples.
func exampleBand() []api.MotionBand {
	o := exampleOscillators()
	return []api.MotionBand{{Oscillator: o[0], Peak: api.Range{Lo: 2, Hi: 2}}, {Oscillator: o[1], Peak: api.Range{Lo: 1, Hi: 2}}}
}

// badOscillators lists all errors of oscillators.
func badOscillators() []api.MotionOscillator {
	return []api.MotionOscillator{{Stiff: -1}, {Stiff: api.MaxMotionStiff + 1}, {Damp: -1}, {Damp: api.MaxMotionDamp + 1}, {Stiff: math.MinInt}, {Stiff: 1, Damp: math.MaxInt}}
}

// P2.5, example 5
func TestResponses(t *testing.T) {
	for _, x := range []struct {
		name    string
		samples []int
		o       api.MotionOscillator
		want    []int
	}{
		{"example", []int{1, 0, -1, 2}, api.MotionOscillator{Stiff: 1000}, []int{-1, -1, 1, 0}},
		{"example, soft", []int{1, 0, -1, 2}, api.MotionOscillator{Stiff: 500}, []int{-1, -2, -1, -2}},
		{"free", []int{1, 0, -1, 2}, api.MotionOscillator{}, []int{-1, -2, -2, -4}},
		{"zeros", []int{0, 0, 0}, api.MotionOscillator{Stiff: 3000, Damp: 500}, []int{0, 0, 0}},
		{"damped", []int{10, 0, 0}, api.MotionOscillator{Stiff: 100, Damp: 250}, []int{-10, -17, -21}},
		{"both at once before rounding", []int{3, 0}, api.MotionOscillator{Stiff: 200, Damp: 300}, []int{-3, -5}},
		{"rounded towards 0 below 0", []int{1, 0, 0}, api.MotionOscillator{Stiff: 999}, []int{-1, -2, -2}},
		{"rounded towards 0 above 0", []int{-1, 0, 0}, api.MotionOscillator{Stiff: 999}, []int{1, 2, 2}},
		{"stiffest", []int{1000, 0, 0, 0}, api.MotionOscillator{Stiff: 3000, Damp: 500}, []int{-1000, 1500, -1750, 1875}},
	} {
		r := api.MotionRecord{Step: 10, Samples: x.samples}
		if l, e := motion.ResponseOf(r, x.o); !slices.Equal(l, x.want) || e != api.OK {
			t.Error(x.name, l, e)
		}
	}
}

// P2.5, example 5
func TestSpectra(t *testing.T) {
	if l, e := motion.SpectrumOf(exampleRecord(), exampleOscillators()); !slices.Equal(l, []int{1, 2}) || e != api.OK {
		t.Error(l, e)
	}
	if l, e := motion.SpectrumOf(exampleRecord(), nil); len(l) != 0 || e != api.OK {
		t.Error("no oscillators", l, e)
	}
	six := slices.Repeat(exampleOscillators()[1:], 6)
	if l, e := motion.SpectrumOf(exampleRecord(), six); !slices.Equal(l, []int{2, 2, 2, 2, 2, 2}) || e != api.OK {
		t.Error("six oscillators", l, e)
	}
	if l, e := motion.SpectrumOf(same(24, -1000), make([]api.MotionOscillator, 1)); !slices.Equal(l, []int{300000}) || e != api.OK {
		t.Error("greatest peak", l, e)
	}
}

// P2.5
func TestSpectrumErrors(t *testing.T) {
	worst := api.MotionOscillator{Stiff: -1}
	checkRecordErrors(t, "response", func(r api.MotionRecord) api.Errno { _, e := motion.ResponseOf(r, worst); return e })
	checkRecordErrors(t, "spectrum", func(r api.MotionRecord) api.Errno {
		_, e := motion.SpectrumOf(r, make([]api.MotionOscillator, 7))
		return e
	})
	for _, o := range badOscillators() {
		if l, e := motion.ResponseOf(exampleRecord(), o); len(l) != 0 || e != api.ErrRange {
			t.Error(o, l, e)
		}
		if l, e := motion.SpectrumOf(exampleRecord(), append(exampleOscillators(), o)); len(l) != 0 || e != api.ErrRange {
			t.Error(o, l, e)
		}
	}
	if l, e := motion.SpectrumOf(exampleRecord(), slices.Repeat([]api.MotionOscillator{worst}, 7)); len(l) != 0 || e != api.ErrLarge {
		t.Error(l, e)
	}
	if l, e := motion.ResponseOf(exampleRecord(), api.MotionOscillator{Stiff: api.MaxMotionStiff, Damp: api.MaxMotionDamp}); len(l) != 4 || e != api.OK {
		t.Error(l, e)
	}
}

// P2.5, example 6
func TestOutside(t *testing.T) {
	o := exampleOscillators()
	row := func(i, lo, hi int) api.MotionBand {
		return api.MotionBand{Oscillator: o[i], Peak: api.Range{Lo: lo, Hi: hi}}
	}
	for _, x := range []struct {
		band []api.MotionBand
		want []int
	}{
		{exampleBand(), []int{0}},
		{[]api.MotionBand{row(0, 1, 1), row(1, 2, 2)}, nil},
		{[]api.MotionBand{row(0, 0, 0), row(0, 0, 1), row(0, 1, 9), row(0, 2, 9), row(1, 0, 1), row(1, 3, 3)}, []int{0, 3, 4, 5}},
		{[]api.MotionBand{row(1, 0, api.MaxMotionPeak)}, nil},
		{[]api.MotionBand{row(1, api.MaxMotionPeak, api.MaxMotionPeak)}, []int{0}},
	} {
		if l, e := motion.OutsideOf(exampleRecord(), x.band); !slices.Equal(l, x.want) || e != api.OK {
			t.Error(x, l, e)
		}
	}
}

// badBand is a band with an error.
type badBand struct {
	name string
	band []api.MotionBand
	want api.Errno
}

// badBands lists all errors of bands; each has errors that are listed later, or stand in later rows, too.
func badBands() []badBand {
	peak := func(lo, hi int) api.MotionBand { return api.MotionBand{Peak: api.Range{Lo: lo, Hi: hi}} }
	all := []badBand{
		{"no rows", nil, api.ErrShape},
		{"empty", []api.MotionBand{}, api.ErrShape},
		{"seven rows", slices.Repeat([]api.MotionBand{peak(2, 1)}, 7), api.ErrLarge},
		{"end below", []api.MotionBand{peak(0, 0), peak(-1, -2)}, api.ErrRange},
		{"end above", []api.MotionBand{peak(0, api.MaxMotionPeak+1), peak(2, 1)}, api.ErrRange},
		{"smallest end", []api.MotionBand{peak(math.MinInt, 1)}, api.ErrRange},
		{"range before order", []api.MotionBand{peak(api.MaxMotionPeak+1, 1)}, api.ErrRange},
		{"order", []api.MotionBand{peak(2, 1), peak(-1, 0)}, api.ErrOrder},
		{"order of the last row", []api.MotionBand{peak(0, 0), peak(0, 1), peak(1, 0)}, api.ErrOrder},
	}
	for _, o := range badOscillators() {
		all = append(all, badBand{"oscillator", []api.MotionBand{{Oscillator: o, Peak: api.Range{Lo: 2, Hi: 1}}}, api.ErrRange})
	}
	return all
}

// P2.5
func TestBandErrors(t *testing.T) {
	checkRecordErrors(t, "outside", func(r api.MotionRecord) api.Errno { _, e := motion.OutsideOf(r, nil); return e })
	for _, x := range badBands() {
		if l, e := motion.OutsideOf(exampleRecord(), x.band); len(l) != 0 || e != x.want {
			t.Error(x.name, l, e)
		}
	}
}

// someOscillator returns an oscillator.
func someOscillator(random interface{ IntN(int) int }) api.MotionOscillator {
	return api.MotionOscillator{Stiff: random.IntN(api.MaxMotionStiff + 1), Damp: random.IntN(api.MaxMotionDamp + 1)}
}

// P2.12
func TestResponsesOfOtherRecords(t *testing.T) {
	random := fixedRandom()
	for range 300 {
		r, o := someRecord(random, api.MaxMotionSample), someOscillator(random)
		l, e := motion.ResponseOf(r, o)
		if e != api.OK || len(l) != len(r.Samples) {
			t.Fatal(r, o, l, e)
		}
		opposite := api.MotionRecord{Step: r.Step}
		for _, a := range r.Samples {
			opposite.Samples = append(opposite.Samples, -a)
		}
		other, e := motion.ResponseOf(opposite, o)
		for i, u := range other {
			if e != api.OK || u != -l[i] {
				t.Fatal(r, o, l, other, e)
			}
		}
		spectrum, _ := motion.SpectrumOf(r, []api.MotionOscillator{o})
		if got, e := motion.SpectrumOf(opposite, []api.MotionOscillator{o}); !slices.Equal(got, spectrum) || e != api.OK {
			t.Fatal(r, o, spectrum, got, e)
		}
		if len(r.Samples) == api.MaxMotionSamples {
			continue
		}
		later := api.MotionRecord{Step: r.Step, Samples: append([]int{0}, r.Samples...)}
		if got, e := motion.ResponseOf(later, o); !slices.Equal(got, append([]int{0}, l...)) || e != api.OK {
			t.Fatal(r, o, l, got, e)
		}
	}
}

// P2.12, and the oscillator that is free of forces.
func TestResponsesOfZerosAndOfNoForces(t *testing.T) {
	random := fixedRandom()
	for range 100 {
		r := someRecord(random, api.MaxMotionSample)
		if l, e := motion.ResponseOf(zeros(len(r.Samples)), someOscillator(random)); !slices.Equal(l, make([]int, len(r.Samples))) || e != api.OK {
			t.Fatal(r, l, e)
		}
		l, e := motion.ResponseOf(r, api.MotionOscillator{})
		displacements, _ := motion.DisplacementsOf(r)
		for i := range l {
			if l[i] != -displacements[i] || e != api.OK {
				t.Fatal(r, l, displacements, e)
			}
		}
	}
}
