package oil_test

import (
	"math"
	"slices"
	"testing"

	"ductility/api"
	"ductility/oil"
)

// P3.3, example 3
func TestScaled(t *testing.T) {
	for _, x := range []struct {
		name    string
		class   []api.Range
		percent int
		want    []api.Range
		e       api.Errno
	}{
		{"example", exampleClass(), 50, classOf(5, 6, 0, 1), api.OK},
		{"rounded", classOf(1, 1, 3, 7, 0, 0), 50, classOf(0, 1, 1, 4, 0, 0), api.OK},
		{"rounded by one percent", classOf(50, 50, 1, 1), 1, classOf(0, 1, 0, 1), api.OK},
		{"not rounded", classOf(50, 50), 98, classOf(49, 49), api.OK},
		{"itself", exampleClass(), 100, exampleClass(), api.OK},
		{"nothing", classOf(50, 50, 1, 3), 0, classOf(0, 0, 0, 0), api.OK},
		{"twice", classOf(10, 25), 200, classOf(20, 50), api.OK},
		{"no ranges", nil, 200, nil, api.OK},
		{"rounded up too far", classOf(0, 0, 49, 50), 101, nil, api.ErrLarge},
		{"rounded up just not too far", classOf(49, 49), 101, classOf(49, 50), api.OK},
		{"twice too much", classOf(0, 26), 200, nil, api.ErrLarge},
		{"percents below 0", exampleClass(), -1, nil, api.ErrRange},
		{"percents above", classOf(0, 50), 201, nil, api.ErrRange},
		{"greatest percents", nil, math.MaxInt, nil, api.ErrRange},
		{"smallest percents", classOf(0, 50), math.MinInt, nil, api.ErrRange},
		{"the class before the percents", classOf(3, 2), 201, nil, api.ErrOrder},
	} {
		if l, e := oil.Scaled(x.class, x.percent); !slices.Equal(l, x.want) || e != x.e {
			t.Error(x.name, l, e)
		}
	}
}

// gapPlant returns a plant whose strong pump starts only by a great demand.
func gapPlant() api.OilPlant {
	return api.OilPlant{Points: []api.OilPoint{{Volume: 0, Pressure: 0}, {Volume: 40, Pressure: 400}}, Pump: 50, On: 200, Off: 399}
}

// P3.3
func TestScales(t *testing.T) {
	p := examplePlant()
	for _, x := range []struct {
		name  string
		p     api.OilPlant
		s     api.OilState
		class []api.Range
		limit int
		want  int
		e     api.Errno
	}{
		{"just as it is", p, still(30), exampleClass(), 165, 100, api.OK},
		{"not a bit more", p, still(30), exampleClass(), 161, 100, api.OK},
		{"a bit more", p, still(30), exampleClass(), 160, 108, api.OK},
		{"less", p, still(30), exampleClass(), 175, 66, api.OK},
		{"by 0 alone", p, still(30), classOf(50, 50), 200, 0, api.OK},
		{"not by 0", p, still(29), nil, 198, 0, api.ErrNone},
		{"not by 0, emptied by more", p, still(0), classOf(50, 50), 101, 0, api.ErrNone},
		{"no ranges", p, still(29), nil, 197, 200, api.OK},
		{"nothing demanded", p, still(0), classOf(0, 0, 0, 0), 0, 200, api.OK},
		{"twice", p, still(30), classOf(0, 15), 0, 200, api.OK},
		{"just not twice", p, still(29), classOf(0, 15), 0, 193, api.OK},
		{"too large demands", greatPlant(), still(200), classOf(0, 40), 0, 125, api.OK},
		{"permitted again by 100", gapPlant(), still(40), classOf(20, 20, 25, 25), 0, 88, api.OK},
	} {
		if n, e := oil.ScaleFor(x.p, x.s, x.class, x.limit); n != x.want || e != x.e {
			t.Error(x.name, n, e)
		}
	}
	if is, e := oil.IsPermitted(gapPlant(), still(40), classOf(20, 20, 25, 25), 0); !is || e != api.OK {
		t.Error(is, e)
	}
}

// P3.3, P3.10
func TestScalesArePermitted(t *testing.T) {
	random := fixedRandom()
	again := 0
	for range 250 {
		p := somePlant(random, 40)
		s, class, limit := someState(random, p), someClass(random, 4, 30), random.IntN(400)
		if random.IntN(2) == 0 {
			// Single demands and a strong pump, so that more may be better than less.
			p.Pump, limit = api.MaxOilFlow, 0
			for i := range class {
				class[i].Lo = class[i].Hi
			}
		}
		if whole, e := oil.Scaled(class, 100); !slices.Equal(whole, class) || e != api.OK {
			t.Fatal(class, whole, e)
		}
		want, isOpen := -1, true
		for percent := range api.MaxOilScale + 1 {
			ranges, e := oil.Scaled(class, percent)
			is := false
			if e == api.OK {
				is, _ = oil.IsPermitted(p, s, ranges, limit)
			}
			isOpen = isOpen && is
			if isOpen {
				want = percent
			} else if is {
				again++
			}
		}
		n, e := oil.ScaleFor(p, s, class, limit)
		if want < 0 && (n != 0 || e != api.ErrNone) || want >= 0 && (n != want || e != api.OK) {
			t.Fatal(p, s, class, limit, n, e, want)
		}
	}
	if again == 0 {
		t.Error("no scale was permitted again")
	}
}

// P3.4
func TestBottles(t *testing.T) {
	p := examplePlant()
	twice := changed(p, func(p *api.OilPlant) { p.Points[1].Volume = 20; p.Points[2].Volume = 60 })
	hundred := changed(smallPlant(), func(p *api.OilPlant) { p.Points[1].Volume = 100 })
	forty := changed(smallPlant(), func(p *api.OilPlant) { p.Points[1].Volume = 40 })
	for _, x := range []struct {
		name  string
		p     api.OilPlant
		count int
		want  api.OilPlant
		e     api.Errno
	}{
		{"one", p, 1, p, api.OK},
		{"two", p, 2, twice, api.OK},
		{"just not too large", hundred, 2, changed(hundred, func(p *api.OilPlant) { p.Points[1].Volume = 200 }), api.OK},
		{"five", forty, 5, changed(forty, func(p *api.OilPlant) { p.Points[1].Volume = 200 }), api.OK},
		{"too large", hundred, 3, api.OilPlant{}, api.ErrLarge},
		{"just too large", changed(hundred, func(p *api.OilPlant) { p.Points[1].Volume = 101 }), 2, api.OilPlant{}, api.ErrLarge},
		{"none", p, 0, api.OilPlant{}, api.ErrRange},
		{"six", greatPlant(), 6, api.OilPlant{}, api.ErrRange},
		{"below 0", p, -1, api.OilPlant{}, api.ErrRange},
		{"smallest", p, math.MinInt, api.OilPlant{}, api.ErrRange},
		{"greatest", p, math.MaxInt, api.OilPlant{}, api.ErrRange},
	} {
		if got, e := oil.Bottles(x.p, x.count); !areSamePlants(got, x.want) || e != x.e {
			t.Error(x.name, got, e)
		}
	}
}

// P3.4, example 4
func TestFewest(t *testing.T) {
	p := examplePlant()
	for _, x := range []struct {
		name  string
		p     api.OilPlant
		class []api.Range
		limit int
		want  int
		e     api.Errno
	}{
		{"example", p, classOf(20, 20, 20, 20), 120, 2, api.OK},
		{"exactly the limit", p, classOf(20, 20, 20, 20), 150, 2, api.OK},
		{"a higher limit", p, classOf(20, 20, 20, 20), 151, 3, api.OK},
		{"one", p, exampleClass(), 165, 1, api.OK},
		{"no ranges", p, nil, 200, 1, api.OK},
		{"never so high", p, nil, 201, 0, api.ErrNone},
		{"five", p, classOf(50, 50, 50, 50, 30, 30), 0, 5, api.OK},
		{"six would do", p, slices.Repeat(classOf(50, 50), 3), 145, 0, api.ErrNone},
		{"too large bottles", changed(p, func(p *api.OilPlant) { p.Points[2].Volume = 101 }), classOf(50, 50, 50, 50, 50, 50), 0, 0, api.ErrNone},
		{"full begins without the pump", changed(smallPlant(), func(p *api.OilPlant) { p.Off = 900; p.On = 800 }), classOf(5, 5), 0, 2, api.OK},
	} {
		if n, e := oil.FewestFor(x.p, x.class, x.limit); n != x.want || e != x.e {
			t.Error(x.name, n, e)
		}
	}
}

// P3.10
func TestOneBottleLess(t *testing.T) {
	random := fixedRandom()
	var found [api.MaxOilBottles + 1]int
	for range 600 {
		p, limit := somePlant(random, 60), random.IntN(300)
		class := someClass(random, 6, 25)
		want := 0
		for count := api.MaxOilBottles; count > 0; count-- {
			bottled, e := oil.Bottles(p, count)
			if e != api.OK {
				continue
			}
			if is, _ := oil.IsPermitted(bottled, still(capacityOf(bottled)), class, limit); is {
				want = count
			}
		}
		n, e := oil.FewestFor(p, class, limit)
		if n != want || (e == api.OK) != (want > 0) || want == 0 && e != api.ErrNone {
			t.Fatal(p, class, limit, n, e, want)
		}
		found[n]++
	}
	for n, times := range found {
		if times == 0 {
			t.Error("never", n)
		}
	}
}
