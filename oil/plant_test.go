package oil_test

import (
	"math"
	"slices"
	"testing"

	"ductility/api"
	"ductility/oil"
)

// P3.1
func TestPlantErrors(t *testing.T) {
	for _, x := range badPlants() {
		if i, e := oil.CheckPlant(x.p); i != x.index || e != x.want {
			t.Error(x.name, i, e)
		}
		for name, e := range plantErrors(x.p) {
			if e != x.want {
				t.Error(x.name, name, e)
			}
		}
	}
	for _, p := range goodPlants() {
		if i, e := oil.CheckPlant(p); i != 0 || e != api.OK {
			t.Error(p, i, e)
		}
	}
}

// P3.1: together with the error of a plant there is no result.
func TestNoResultsOfBadPlants(t *testing.T) {
	for _, x := range badPlants() {
		if f, e := oil.PressureAt(x.p, 0); f != (api.Frac{}) || e != x.want {
			t.Error(x.name, f, e)
		}
		if volume, e := oil.VolumeFor(x.p, 150); volume != 0 || e != x.want {
			t.Error(x.name, volume, e)
		}
		if s, e := oil.Next(x.p, still(5), 1); s != (api.OilState{}) || e != x.want {
			t.Error(x.name, s, e)
		}
		if p, e := oil.Bottles(x.p, 1); !isNothing(p) || e != x.want {
			t.Error(x.name, p, e)
		}
		if n, e := oil.FewestFor(x.p, nil, 0); n != 0 || e != x.want {
			t.Error(x.name, n, e)
		}
		if i, e := oil.CheckSafe(x.p, api.Range{}, 0, []api.OilState{still(1), still(0)}); i != 0 || e != x.want {
			t.Error(x.name, i, e)
		}
	}
}

// P3.1, example 1
func TestPressures(t *testing.T) {
	for _, x := range []struct {
		p      api.OilPlant
		volume int
		want   api.Frac
		e      api.Errno
	}{
		{examplePlant(), 5, api.Frac{Num: 125, Den: 1}, api.OK},
		{examplePlant(), 20, api.Frac{Num: 175, Den: 1}, api.OK},
		{examplePlant(), 0, api.Frac{Num: 100, Den: 1}, api.OK},
		{examplePlant(), 10, api.Frac{Num: 150, Den: 1}, api.OK},
		{examplePlant(), 11, api.Frac{Num: 305, Den: 2}, api.OK},
		{examplePlant(), 27, api.Frac{Num: 385, Den: 2}, api.OK},
		{examplePlant(), 30, api.Frac{Num: 200, Den: 1}, api.OK},
		{examplePlant(), 31, api.Frac{}, api.ErrRange},
		{examplePlant(), -1, api.Frac{}, api.ErrRange},
		{examplePlant(), math.MinInt, api.Frac{}, api.ErrRange},
		{examplePlant(), math.MaxInt, api.Frac{}, api.ErrRange},
		{goodPlants()[3], 0, api.Frac{Num: 0, Den: 1}, api.OK},
		{goodPlants()[4], 199, api.Frac{Num: 199999, Den: 200}, api.OK},
	} {
		if f, e := oil.PressureAt(x.p, x.volume); f != x.want || e != x.e {
			t.Error(x.p, x.volume, f, e)
		}
	}
}

// P3.1, example 1
func TestVolumes(t *testing.T) {
	for _, x := range []struct {
		p              api.OilPlant
		pressure, want int
		e              api.Errno
	}{
		{examplePlant(), 160, 14, api.OK},
		{examplePlant(), 165, 16, api.OK},
		{examplePlant(), 0, 0, api.OK},
		{examplePlant(), 100, 0, api.OK},
		{examplePlant(), 101, 1, api.OK},
		{examplePlant(), 150, 10, api.OK},
		{examplePlant(), 151, 11, api.OK},
		{examplePlant(), 200, 30, api.OK},
		{examplePlant(), 201, 0, api.ErrNone},
		{examplePlant(), 1000, 0, api.ErrNone},
		{examplePlant(), 1001, 0, api.ErrRange},
		{examplePlant(), -1, 0, api.ErrRange},
		{examplePlant(), math.MinInt, 0, api.ErrRange},
		{greatPlant(), 1000, 200, api.OK},
	} {
		if volume, e := oil.VolumeFor(x.p, x.pressure); volume != x.want || e != x.e {
			t.Error(x.p, x.pressure, volume, e)
		}
	}
}

// P3.12
func TestPressuresAscend(t *testing.T) {
	random := fixedRandom()
	for range 100 {
		p := somePlant(random, 2+random.IntN(api.MaxOilVolume-1))
		for volume := range capacityOf(p) + 1 {
			f, e := oil.PressureAt(p, volume)
			if e != api.OK || !isLowest(f, pressureByHand(p, volume)) {
				t.Fatal(p, volume, f, e)
			}
			if volume > 0 && rationalOf(f).Cmp(pressureByHand(p, volume-1)) <= 0 {
				t.Fatal(p, volume, f)
			}
		}
		for pressure := 0; pressure <= api.MaxOilPressure; pressure += 1 + random.IntN(40) {
			volume, e := oil.VolumeFor(p, pressure)
			if !isAtLeast(p, capacityOf(p), pressure) {
				if volume != 0 || e != api.ErrNone {
					t.Fatal(p, pressure, volume, e)
				}
				continue
			}
			if e != api.OK || !isAtLeast(p, volume, pressure) || volume > 0 && isAtLeast(p, volume-1, pressure) {
				t.Fatal(p, pressure, volume, e)
			}
		}
	}
}

// P3.2, example 2
func TestNext(t *testing.T) {
	p := examplePlant()
	lost := changed(p, func(p *api.OilPlant) { p.Off = 201 })
	idle := changed(p, func(p *api.OilPlant) { p.Pump = 0 })
	for _, x := range []struct {
		name   string
		p      api.OilPlant
		s      api.OilState
		demand int
		want   api.OilState
	}{
		{"example", p, still(30), 12, still(18)},
		{"example, second", p, still(18), 12, running(6)},
		{"example, third", p, running(6), 3, running(7)},
		{"example, stops", p, running(23), 0, still(27)},
		{"exactly on", p, still(14), 4, running(10)},
		{"just above on", p, still(15), 4, still(11)},
		{"exactly off", p, running(22), 0, still(26)},
		{"just below off", p, running(22), 1, running(25)},
		{"goes on at the same volume", p, running(20), 4, running(20)},
		{"not running below off", p, still(25), 0, still(25)},
		{"all that is there", p, still(7), 7, running(0)},
		{"all that is there, with the pump", p, running(7), 11, running(0)},
		{"lost", lost, running(29), 1, running(30)},
		{"lost at the capacity", lost, running(30), 0, running(30)},
		{"demand before what is lost", lost, running(30), 4, running(30)},
		{"full and running", p, running(30), 0, still(30)},
		{"not running at a low pressure", p, still(5), 2, running(3)},
		{"without a pump", idle, running(5), 2, running(3)},
		{"greatest demand", greatPlant(), running(0), 50, running(0)},
	} {
		if s, e := oil.Next(x.p, x.s, x.demand); s != x.want || e != api.OK {
			t.Error(x.name, s, e)
		}
	}
}

// P3.2
func TestNextErrors(t *testing.T) {
	for _, x := range []struct {
		name   string
		s      api.OilState
		demand int
		want   api.Errno
	}{
		{"volume below 0", still(-1), -1, api.ErrRange},
		{"volume above", running(31), 50, api.ErrRange},
		{"smallest volume", still(math.MinInt), 1, api.ErrRange},
		{"greatest volume", running(math.MaxInt), 1, api.ErrRange},
		{"demand below 0", still(5), -1, api.ErrRange},
		{"demand above", still(5), 51, api.ErrRange},
		{"smallest demand", running(5), math.MinInt, api.ErrRange},
		{"greatest demand", still(5), math.MaxInt, api.ErrRange},
		{"empties", still(7), 8, api.ErrBreak},
		{"empties with the pump", running(7), 12, api.ErrBreak},
		{"empties by the greatest demand", still(0), 50, api.ErrBreak},
	} {
		if s, e := oil.Next(examplePlant(), x.s, x.demand); s != (api.OilState{}) || e != x.want {
			t.Error(x.name, s, e)
		}
	}
}

// P3.2, example 2
func TestRuns(t *testing.T) {
	for _, x := range []struct {
		name    string
		s       api.OilState
		demands []int
		want    []api.OilState
		e       api.Errno
	}{
		{"example", still(30), []int{12, 12, 3}, []api.OilState{still(30), still(18), running(6), running(7)}, api.OK},
		{"no demands", running(30), nil, []api.OilState{running(30)}, api.OK},
		{"empty demands", still(0), []int{}, []api.OilState{still(0)}, api.OK},
		{"volume above", still(31), make([]int, 21), nil, api.ErrRange},
		{"volume below 0", still(-1), nil, nil, api.ErrRange},
		{"21 demands", still(30), slices.Repeat([]int{51}, 21), nil, api.ErrLarge},
		{"demand above", still(30), []int{12, 51}, nil, api.ErrRange},
		{"demand below 0", still(30), []int{-1, 50}, nil, api.ErrRange},
		{"empties before a wrong demand", still(30), []int{12, 19, -1}, nil, api.ErrBreak},
		{"a wrong demand before one that empties", still(30), []int{12, 51, 50}, nil, api.ErrRange},
		{"empties at last", still(30), []int{12, 12, 11}, nil, api.ErrBreak},
	} {
		run, e := oil.RunOf(examplePlant(), x.s, x.demands)
		if !slices.Equal(run, x.want) || e != x.e {
			t.Error(x.name, run, e)
		}
	}
	if run, e := oil.RunOf(examplePlant(), still(30), make([]int, 20)); len(run) != 21 || run[20] != still(30) || e != api.OK {
		t.Error("20 demands", run, e)
	}
}

// P3.2
func TestRunsGoStepByStep(t *testing.T) {
	random := fixedRandom()
	for range 400 {
		p := somePlant(random, 40)
		s := someState(random, p)
		var demands []int
		for range random.IntN(api.MaxOilTicks + 1) {
			demands = append(demands, random.IntN(8))
		}
		want := []api.OilState{s}
		e := api.OK
		for _, demand := range demands {
			at := want[len(want)-1]
			next, isLeft := nextByHand(p, at, demand)
			if got, e := oil.Next(p, at, demand); got != next || (e == api.OK) != isLeft {
				t.Fatal(p, at, demand, got, e)
			}
			if !isLeft {
				want, e = nil, api.ErrBreak
				break
			}
			want = append(want, next)
		}
		if run, got := oil.RunOf(p, s, demands); !slices.Equal(run, want) || got != e {
			t.Fatal(p, s, demands, run, got)
		}
	}
}
