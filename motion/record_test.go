package motion_test

import (
	"math"
	"slices"
	"testing"

	"ductility/api"
	"ductility/motion"
)

// P2.1
func TestRecordErrors(t *testing.T) {
	for _, x := range badRecords() {
		if i, e := motion.CheckRecord(x.r); i != x.index || e != x.want {
			t.Error(x.name, i, e)
		}
		if l, e := motion.VelocitiesOf(x.r); len(l) != 0 || e != x.want {
			t.Error(x.name, l, e)
		}
		if l, e := motion.DisplacementsOf(x.r); len(l) != 0 || e != x.want {
			t.Error(x.name, l, e)
		}
		if end, e := motion.EndOf(x.r); end != (api.MotionEnd{}) || e != x.want {
			t.Error(x.name, end, e)
		}
		if p, e := motion.PeaksOf(x.r); p != (api.MotionPeaks{}) || e != x.want {
			t.Error(x.name, p, e)
		}
		if f, e := motion.GreatestScale(x.r, api.MotionPeaks{Acceleration: -1}); f != (api.Frac{}) || e != x.want {
			t.Error(x.name, f, e)
		}
	}
}

// P2.1
func TestGoodRecords(t *testing.T) {
	longest := same(api.MaxMotionSamples, -api.MaxMotionSample)
	longest.Step = api.MaxMotionStep
	for _, r := range []api.MotionRecord{exampleRecord(), zeros(2), longest, same(2, api.MaxMotionSample)} {
		if i, e := motion.CheckRecord(r); i != 0 || e != api.OK {
			t.Error(r, i, e)
		}
	}
}

// P2.1, example 1
func TestSums(t *testing.T) {
	for _, x := range []struct {
		r                         api.MotionRecord
		velocities, displacements []int
		end                       api.MotionEnd
		peaks                     api.MotionPeaks
	}{
		{exampleRecord(), []int{1, 1, 0, 2}, []int{1, 2, 2, 4}, api.MotionEnd{Velocity: 2, Displacement: 4}, api.MotionPeaks{Acceleration: 2, Velocity: 2, Displacement: 4}},
		{zeros(3), []int{0, 0, 0}, []int{0, 0, 0}, api.MotionEnd{}, api.MotionPeaks{}},
		{api.MotionRecord{Step: 1, Samples: []int{-5, 3, 1}}, []int{-5, -2, -1}, []int{-5, -7, -8}, api.MotionEnd{Velocity: -1, Displacement: -8}, api.MotionPeaks{Acceleration: 5, Velocity: 5, Displacement: 8}},
		{api.MotionRecord{Step: 7, Samples: []int{1, -2, 1}}, []int{1, -1, 0}, []int{1, 0, 0}, api.MotionEnd{}, api.MotionPeaks{Acceleration: 2, Velocity: 1, Displacement: 1}},
		{api.MotionRecord{Step: 7, Samples: []int{0, 4, -8, 4}}, []int{0, 4, -4, 0}, []int{0, 4, 0, 0}, api.MotionEnd{}, api.MotionPeaks{Acceleration: 8, Velocity: 4, Displacement: 4}},
	} {
		if l, e := motion.VelocitiesOf(x.r); !slices.Equal(l, x.velocities) || e != api.OK {
			t.Error(x.r, l, e)
		}
		if l, e := motion.DisplacementsOf(x.r); !slices.Equal(l, x.displacements) || e != api.OK {
			t.Error(x.r, l, e)
		}
		if end := mustEnd(t, x.r); end != x.end {
			t.Error(x.r, end)
		}
		if p, e := motion.PeaksOf(x.r); p != x.peaks || e != api.OK {
			t.Error(x.r, p, e)
		}
	}
	widest := same(api.MaxMotionSamples, -api.MaxMotionSample)
	if p, e := motion.PeaksOf(widest); p != (api.MotionPeaks{Acceleration: 1000, Velocity: 24000, Displacement: 300000}) || e != api.OK {
		t.Error(p, e)
	}
}

// P2.1, example 1
func TestScales(t *testing.T) {
	most := api.MotionPeaks{Acceleration: api.MaxMotionPeak, Velocity: api.MaxMotionPeak, Displacement: api.MaxMotionPeak}
	for _, x := range []struct {
		name   string
		r      api.MotionRecord
		limits api.MotionPeaks
		want   api.Frac
		e      api.Errno
	}{
		{"example", exampleRecord(), api.MotionPeaks{Acceleration: 5, Velocity: 3, Displacement: 10}, api.Frac{Num: 3, Den: 2}, api.OK},
		{"acceleration", exampleRecord(), api.MotionPeaks{Acceleration: 2, Velocity: 3, Displacement: 10}, api.Frac{Num: 1, Den: 1}, api.OK},
		{"displacement", exampleRecord(), api.MotionPeaks{Acceleration: 5, Velocity: 3, Displacement: 5}, api.Frac{Num: 5, Den: 4}, api.OK},
		{"lowest terms", exampleRecord(), api.MotionPeaks{Acceleration: 9, Velocity: 9, Displacement: 6}, api.Frac{Num: 3, Den: 2}, api.OK},
		{"greatest limits", api.MotionRecord{Step: 1, Samples: []int{0, 1}}, most, api.Frac{Num: api.MaxMotionPeak, Den: 1}, api.OK},
		{"greatest peaks", same(24, -1000), api.MotionPeaks{Acceleration: 1, Velocity: 1, Displacement: 1}, api.Frac{Num: 1, Den: 300000}, api.OK},
		{"acceleration 0", exampleRecord(), api.MotionPeaks{Velocity: 3, Displacement: 10}, api.Frac{Num: 0, Den: 1}, api.OK},
		{"velocity 0", exampleRecord(), api.MotionPeaks{Acceleration: 5, Displacement: 10}, api.Frac{Num: 0, Den: 1}, api.OK},
		{"displacement 0", exampleRecord(), api.MotionPeaks{Acceleration: 5, Velocity: 3}, api.Frac{Num: 0, Den: 1}, api.OK},
		{"all 0", zeros(2), most, api.Frac{}, api.ErrNone},
		{"all 0, and no limits", zeros(2), api.MotionPeaks{}, api.Frac{}, api.ErrNone},
		{"acceleration below", exampleRecord(), api.MotionPeaks{Acceleration: -1}, api.Frac{}, api.ErrRange},
		{"velocity below", zeros(2), api.MotionPeaks{Velocity: math.MinInt}, api.Frac{}, api.ErrRange},
		{"displacement above", zeros(2), api.MotionPeaks{Displacement: api.MaxMotionPeak + 1}, api.Frac{}, api.ErrRange},
	} {
		if f, e := motion.GreatestScale(x.r, x.limits); f != x.want || e != x.e {
			t.Error(x.name, f, e)
		}
	}
}

// P2.11
func TestGreatestScaleReachesALimit(t *testing.T) {
	random := fixedRandom()
	for range 300 {
		r := someRecord(random, 20)
		limits := api.MotionPeaks{Acceleration: random.IntN(50), Velocity: random.IntN(200), Displacement: random.IntN(1000)}
		p, _ := motion.PeaksOf(r)
		f, e := motion.GreatestScale(r, limits)
		if p == (api.MotionPeaks{}) {
			if e != api.ErrNone {
				t.Fatal(r, e)
			}
			continue
		}
		if e != api.OK || f.Den < 1 || f.Num < 0 {
			t.Fatal(r, limits, f, e)
		}
		isReached := false
		for _, x := range [][2]int{{p.Acceleration, limits.Acceleration}, {p.Velocity, limits.Velocity}, {p.Displacement, limits.Displacement}} {
			if x[0]*f.Num > x[1]*f.Den {
				t.Fatal(r, limits, f)
			}
			isReached = isReached || x[0] > 0 && x[0]*f.Num == x[1]*f.Den
		}
		if !isReached {
			t.Fatal(r, limits, f)
		}
	}
}

// P2.2, example 2
func TestInstruments(t *testing.T) {
	for _, x := range []struct {
		given, recorded []int
		echo            int
	}{
		{[]int{1, 0, -1, 2}, []int{1, 1, 0, 2}, 1},
		{[]int{1, 0, -1, 2}, []int{1, -1, 0, 2}, -1},
		{[]int{1, 0, -1, 2}, []int{1, 2, 3, 8}, 2},
		{[]int{1, 0, -1, 2}, []int{1, -2, 3, -4}, -2},
		{[]int{1, 0, -1, 2}, []int{1, 0, -1, 2}, 0},
		{[]int{500, 0}, []int{500, 1000}, 2},
		{[]int{0, 0}, []int{0, 0}, 2},
	} {
		given, recorded := api.MotionRecord{Step: 10, Samples: x.given}, api.MotionRecord{Step: 10, Samples: x.recorded}
		if r, e := motion.Recorded(given, x.echo); !areSame(r, recorded) || e != api.OK {
			t.Error(x, r, e)
		}
		if r, e := motion.Corrected(recorded, x.echo); !areSame(r, given) || e != api.OK {
			t.Error(x, r, e)
		}
	}
}

// P2.2
func TestInstrumentErrors(t *testing.T) {
	checkRecordErrors(t, "recorded", func(r api.MotionRecord) api.Errno { _, e := motion.Recorded(r, 3); return e })
	checkRecordErrors(t, "corrected", func(r api.MotionRecord) api.Errno { _, e := motion.Corrected(r, 3); return e })
	pair := func(a, b int) api.MotionRecord { return api.MotionRecord{Step: 1, Samples: []int{a, b, 0}} }
	for _, x := range []struct {
		r                   api.MotionRecord
		echo                int
		recorded, corrected api.Errno
	}{
		{pair(1, 1), 3, api.ErrRange, api.ErrRange},
		{pair(1000, 1000), -3, api.ErrRange, api.ErrRange},
		{pair(0, 0), math.MinInt, api.ErrRange, api.ErrRange},
		{pair(500, 1), 2, api.ErrLarge, api.OK},
		{pair(500, -1), -2, api.ErrLarge, api.OK},
		{pair(500, -1), 2, api.ErrLarge, api.ErrLarge},
		{pair(500, 1), -2, api.ErrLarge, api.ErrLarge},
		{pair(0, 1000), -1, api.OK, api.OK},
		{pair(0, 501), 2, api.ErrLarge, api.ErrLarge},
		{pair(0, 500), 2, api.OK, api.OK},
		{same(24, 1000), 2, api.ErrLarge, api.OK},
		{same(24, 1000), -2, api.ErrLarge, api.ErrLarge},
	} {
		if r, e := motion.Recorded(x.r, x.echo); e != x.recorded || e != api.OK && !isNothing(r) {
			t.Error(x, r, e)
		}
		if r, e := motion.Corrected(x.r, x.echo); e != x.corrected || e != api.OK && !isNothing(r) {
			t.Error(x, r, e)
		}
	}
}

// P2.10
func TestInstrumentsThereAndBack(t *testing.T) {
	random := fixedRandom()
	there, back := 0, 0
	for range 600 {
		r, echo := someRecord(random, 1+random.IntN(300)), within(random, 2)
		if x, e := motion.Recorded(r, echo); e == api.OK {
			there++
			if y, e := motion.Corrected(x, echo); !areSame(y, r) || e != api.OK {
				t.Fatal(r, echo, x, y, e)
			}
		} else if e != api.ErrLarge {
			t.Fatal(r, echo, e)
		}
		if x, e := motion.Corrected(r, echo); e == api.OK {
			back++
			if y, e := motion.Recorded(x, echo); !areSame(y, r) || e != api.OK {
				t.Fatal(r, echo, x, y, e)
			}
		} else if e != api.ErrLarge {
			t.Fatal(r, echo, e)
		}
	}
	if there < 100 || back < 100 {
		t.Error("too few cases", there, back)
	}
}

// R3: what is returned is new, and no argument is changed.
func TestResultsAreNew(t *testing.T) {
	r, waves := exampleRecord(), [][]int{{1, -2, 1, 0}}
	a, _ := motion.Recorded(r, 0)
	b, _ := motion.Corrected(r, 0)
	c, _ := motion.Added(r, nil, nil)
	d, _ := motion.Added(r, waves, []int{0})
	for _, x := range []api.MotionRecord{a, b, c, d} {
		if !areSame(x, exampleRecord()) {
			t.Fatal(x)
		}
		clear(x.Samples)
	}
	scaled := api.MotionScaled{Step: api.Frac{Num: 1, Den: 1}, Den: 1, Parts: r.Samples}
	one := api.Frac{Num: 1, Den: 1}
	x, _ := motion.ScaledBy(scaled, api.MotionScale{Length: one, Time: one})
	clear(x.Parts)
	rested := api.MotionRecord{Step: 1, Samples: waves[0]}
	y, _ := motion.RestOf(rested)
	clear(y.Parts)
	if !areSame(r, exampleRecord()) || !slices.Equal(waves[0], []int{1, -2, 1, 0}) {
		t.Error(r, waves)
	}
	r.Samples = append(make([]int, 0, 9), r.Samples...)
	if motion.CheckRest(r, api.MotionParts{Den: 5, Parts: r.Samples}, api.MotionPrices{Den: 5, Velocity: 1}); r.Samples[:5][4] != 0 {
		t.Error("the memory behind an argument was written", r.Samples[:5])
	}
}
