package oil_test

import (
	"math"
	"math/big"
	"math/rand/v2"
	"slices"
	"testing"

	"ductility/api"
	"ductility/oil"
)

// examplePlant returns the plant p of the examples.
func examplePlant() api.OilPlant {
	return api.OilPlant{Points: []api.OilPoint{{Volume: 0, Pressure: 100}, {Volume: 10, Pressure: 150}, {Volume: 30, Pressure: 200}}, Pump: 4, On: 150, Off: 190}
}

// smallPlant returns the plant q of the examples.
func smallPlant() api.OilPlant {
	return api.OilPlant{Points: []api.OilPoint{{Volume: 0, Pressure: 10}, {Volume: 4, Pressure: 50}}, Pump: 2, On: 30, Off: 50}
}

// greatPlant returns a plant of which all numbers are the greatest.
func greatPlant() api.OilPlant {
	p := api.OilPlant{Pump: api.MaxOilFlow, On: api.MaxOilPressure - 1, Off: api.MaxOilPressure}
	for i := range api.MaxOilPoints {
		p.Points = append(p.Points, api.OilPoint{Volume: i, Pressure: i})
	}
	p.Points[7] = api.OilPoint{Volume: api.MaxOilVolume, Pressure: api.MaxOilPressure}
	return p
}

// still returns the state of a volume while the pump is not running.
func still(volume int) api.OilState { return api.OilState{Volume: volume} }

// running returns the state of a volume while the pump is running.
func running(volume int) api.OilState { return api.OilState{Volume: volume, Running: true} }

// classOf returns the class of ends of ranges.
func classOf(ends ...int) []api.Range {
	var class []api.Range
	for i := 0; i < len(ends); i += 2 {
		class = append(class, api.Range{Lo: ends[i], Hi: ends[i+1]})
	}
	return class
}

// areSamePlants tells whether plants are the same.
func areSamePlants(a, b api.OilPlant) bool {
	return slices.Equal(a.Points, b.Points) && a.Pump == b.Pump && a.On == b.On && a.Off == b.Off
}

// isNothing tells whether a plant is the zero value.
func isNothing(p api.OilPlant) bool { return areSamePlants(p, api.OilPlant{}) }

// badPlant is a plant with an error, and what CheckPlant says of it.
type badPlant struct {
	name  string
	p     api.OilPlant
	index int
	want  api.Errno
}

// changed returns a copy of a plant with a change.
func changed(p api.OilPlant, change func(p *api.OilPlant)) api.OilPlant {
	p.Points = slices.Clone(p.Points)
	change(&p)
	return p
}

// badPlants lists all errors of plants; each has errors that are listed later, or stand in later points, too.
func badPlants() []badPlant {
	var all []badPlant
	add := func(name string, index int, want api.Errno, change func(p *api.OilPlant)) {
		all = append(all, badPlant{name, changed(examplePlant(), change), index, want})
	}
	add("nothing", 0, api.ErrShape, func(p *api.OilPlant) { *p = api.OilPlant{} })
	add("one point", 0, api.ErrShape, func(p *api.OilPlant) { p.Points = []api.OilPoint{{Volume: -1}} })
	add("nine points", 0, api.ErrLarge, func(p *api.OilPlant) { p.Points = slices.Repeat([]api.OilPoint{{Volume: -1}}, 9) })
	add("first volume below 0", 0, api.ErrRange, func(p *api.OilPlant) { p.Points[0].Volume = -1; p.Points[1].Volume = -1 })
	add("first volume not 0", 0, api.ErrOrder, func(p *api.OilPlant) { p.Points[0].Volume = 1; p.Points[1].Volume = -1 })
	add("first pressure below 0", 0, api.ErrRange, func(p *api.OilPlant) { p.Points[0] = api.OilPoint{Volume: 1, Pressure: -1} })
	add("smallest pressure", 0, api.ErrRange, func(p *api.OilPlant) { p.Points[0].Pressure = math.MinInt })
	add("volume above", 2, api.ErrRange, func(p *api.OilPlant) { p.Points[2].Volume = 201; p.On = -1 })
	add("greatest volume", 1, api.ErrRange, func(p *api.OilPlant) { p.Points[1].Volume = math.MaxInt; p.Points[2].Volume = 201 })
	add("pressure above", 2, api.ErrRange, func(p *api.OilPlant) { p.Points[2] = api.OilPoint{Volume: 10, Pressure: 1001} })
	add("pressure above in the first point", 0, api.ErrRange, func(p *api.OilPlant) { p.Points[0].Pressure = 1001; p.Points[0].Volume = 1 })
	add("the same volume", 1, api.ErrOrder, func(p *api.OilPlant) { p.Points[1].Volume = 0; p.Points[2].Volume = 201 })
	add("a smaller volume", 2, api.ErrOrder, func(p *api.OilPlant) { p.Points[2].Volume = 9; p.Off = 1001 })
	add("the same pressure", 1, api.ErrOrder, func(p *api.OilPlant) { p.Points[1].Pressure = 100; p.Pump = -1 })
	add("a smaller pressure", 2, api.ErrOrder, func(p *api.OilPlant) { p.Points[2].Pressure = 149; p.Pump = 51 })
	add("pump below 0", 0, api.ErrRange, func(p *api.OilPlant) { p.Pump = -1; p.On = p.Off })
	add("pump above", 0, api.ErrRange, func(p *api.OilPlant) { p.Pump = 51; p.On = p.Off })
	add("greatest pump", 0, api.ErrRange, func(p *api.OilPlant) { p.Pump = math.MaxInt })
	add("on below 0", 0, api.ErrRange, func(p *api.OilPlant) { p.On = -1 })
	add("on above", 0, api.ErrRange, func(p *api.OilPlant) { p.On = 1001 })
	add("off below 0", 0, api.ErrRange, func(p *api.OilPlant) { p.Off = -1 })
	add("off above", 0, api.ErrRange, func(p *api.OilPlant) { p.Off = 1001 })
	add("on is off", 0, api.ErrOrder, func(p *api.OilPlant) { p.On = p.Off })
	add("on above off", 0, api.ErrOrder, func(p *api.OilPlant) { p.On = 191 })
	return all
}

// goodPlants lists plants whose numbers lie at the ends of what is permitted.
func goodPlants() []api.OilPlant {
	return []api.OilPlant{
		examplePlant(), smallPlant(), greatPlant(),
		{Points: []api.OilPoint{{Volume: 0, Pressure: 0}, {Volume: 1, Pressure: 1}}, Pump: 0, On: 0, Off: 1},
		{Points: []api.OilPoint{{Volume: 0, Pressure: 999}, {Volume: 200, Pressure: 1000}}, Pump: 50, On: 0, Off: 1000},
	}
}

// badRange is a range of demands with an error.
type badRange struct {
	name    string
	demands api.Range
	want    api.Errno
}

// badRanges lists all errors of ranges of demands.
func badRanges() []badRange {
	return []badRange{
		{"below 0", api.Range{Lo: -1, Hi: 3}, api.ErrRange},
		{"above", api.Range{Lo: 0, Hi: 51}, api.ErrRange},
		{"both outside", api.Range{Lo: math.MaxInt, Hi: math.MinInt}, api.ErrRange},
		{"the upper end below 0", api.Range{Lo: 0, Hi: -1}, api.ErrRange},
		{"the lower end above", api.Range{Lo: 51, Hi: 50}, api.ErrRange},
		{"order", api.Range{Lo: 3, Hi: 2}, api.ErrOrder},
	}
}

// fixedRandom returns the same numbers in each run.
func fixedRandom() *rand.Rand { return rand.New(rand.NewPCG(3, 3)) }

// somePlant returns a plant of at most so great a capacity.
func somePlant(random *rand.Rand, capacity int) api.OilPlant {
	p := api.OilPlant{Pump: random.IntN(7), On: random.IntN(900)}
	p.Off = p.On + 1 + random.IntN(api.MaxOilPressure-p.On)
	at := api.OilPoint{Pressure: random.IntN(400)}
	for len(p.Points) < api.MaxOilPoints && at.Volume <= capacity && at.Pressure <= api.MaxOilPressure {
		p.Points = append(p.Points, at)
		at.Volume += 1 + random.IntN(capacity/2)
		at.Pressure += 1 + random.IntN(300)
	}
	if len(p.Points) < 2 {
		return somePlant(random, capacity)
	}
	return p
}

// someState returns a state of a plant.
func someState(random *rand.Rand, p api.OilPlant) api.OilState {
	return api.OilState{Volume: random.IntN(capacityOf(p) + 1), Running: random.IntN(2) == 0}
}

// someClass returns a class of at most so many ranges, whose ends are at most so great.
func someClass(random *rand.Rand, ticks, most int) []api.Range {
	var class []api.Range
	for range random.IntN(ticks + 1) {
		class = append(class, someRange(random, 0, most))
	}
	return class
}

// someRange returns a range within another one.
func someRange(random *rand.Rand, lo, hi int) api.Range {
	a, b := lo+random.IntN(hi-lo+1), lo+random.IntN(hi-lo+1)
	return api.Range{Lo: min(a, b), Hi: max(a, b)}
}

// capacityOf returns the capacity of a plant.
func capacityOf(p api.OilPlant) int { return p.Points[len(p.Points)-1].Volume }

// allStates returns all states of a plant, in order.
func allStates(p api.OilPlant) []api.OilState {
	var all []api.OilState
	for volume := range capacityOf(p) + 1 {
		all = append(all, still(volume), running(volume))
	}
	return all
}

// pressureByHand returns the pressure at a volume as a mean of the points around it.
func pressureByHand(p api.OilPlant, volume int) *big.Rat {
	for i := 1; ; i++ {
		a, b := p.Points[i-1], p.Points[i]
		if volume <= b.Volume {
			part := big.NewRat(int64(volume-a.Volume), int64(b.Volume-a.Volume))
			rest := new(big.Rat).Sub(big.NewRat(1, 1), part)
			rest.Mul(rest, big.NewRat(int64(a.Pressure), 1))
			return rest.Add(rest, part.Mul(part, big.NewRat(int64(b.Pressure), 1)))
		}
	}
}

// isAtLeast tells whether the pressure at a volume is at least a limit.
func isAtLeast(p api.OilPlant, volume, limit int) bool {
	return pressureByHand(p, volume).Cmp(big.NewRat(int64(limit), 1)) >= 0
}

// nextByHand returns the next state, and whether the plant is not emptied.
func nextByHand(p api.OilPlant, s api.OilState, demand int) (api.OilState, bool) {
	if s.Running {
		s.Volume += p.Pump
	}
	s.Volume -= demand
	if s.Volume < 0 {
		return api.OilState{}, false
	}
	s.Volume = min(s.Volume, capacityOf(p))
	if isAtLeast(p, s.Volume, p.Off) {
		s.Running = false
	} else if pressureByHand(p, s.Volume).Cmp(big.NewRat(int64(p.On), 1)) <= 0 {
		s.Running = true
	}
	return s, true
}

// compareStates compares states by their order.
func compareStates(a, b api.OilState) int {
	if a.Volume != b.Volume {
		return a.Volume - b.Volume
	}
	if a.Running == b.Running {
		return 0
	}
	if b.Running {
		return -1
	}
	return 1
}

// walk calls visit for demands of a class, one after the other, and for what they lead to, up to those that empty the plant.
func walk(p api.OilPlant, s api.OilState, class []api.Range, visit func(demands []int, s api.OilState, isEmptied bool)) {
	var further func(demands []int, s api.OilState)
	further = func(demands []int, s api.OilState) {
		visit(slices.Clone(demands), s, false)
		if len(demands) == len(class) {
			return
		}
		for demand := class[len(demands)].Lo; demand <= class[len(demands)].Hi; demand++ {
			longer := append(slices.Clone(demands), demand)
			if next, isLeft := nextByHand(p, s, demand); isLeft {
				further(longer, next)
			} else {
				visit(longer, api.OilState{}, true)
			}
		}
	}
	further(nil, s)
}

// witnessByHand looks at all demands of a class.
func witnessByHand(p api.OilPlant, s api.OilState, class []api.Range, limit int) ([]int, bool) {
	var best []int
	isFound := false
	walk(p, s, class, func(demands []int, s api.OilState, isEmptied bool) {
		if !isEmptied && isAtLeast(p, s.Volume, limit) {
			return
		}
		isBetter := len(demands) < len(best) || len(demands) == len(best) && slices.Compare(demands, best) < 0
		if !isFound || isBetter {
			best, isFound = demands, true
		}
	})
	return best, isFound
}

// rationalOf returns a fraction as a quotient.
func rationalOf(f api.Frac) *big.Rat { return big.NewRat(int64(f.Num), int64(f.Den)) }

// isLowest tells whether a fraction is the quotient, in lowest terms.
func isLowest(f api.Frac, q *big.Rat) bool {
	return q.Num().IsInt64() && q.Num().Int64() == int64(f.Num) && q.Denom().Int64() == int64(f.Den)
}

// plantErrors returns the errors of all functions of a plant for further arguments that are wrong, too.
func plantErrors(p api.OilPlant) map[string]api.Errno {
	wrong, class := still(-1), classOf(3, 2)
	errors := map[string]api.Errno{}
	_, errors["PressureAt"] = oil.PressureAt(p, -1)
	_, errors["VolumeFor"] = oil.VolumeFor(p, -1)
	_, errors["Next"] = oil.Next(p, wrong, -1)
	_, errors["RunOf"] = oil.RunOf(p, wrong, make([]int, 21))
	_, errors["ReachedBy"] = oil.ReachedBy(p, wrong, class)
	_, _, errors["LowestIn"] = oil.LowestIn(p, wrong, class)
	_, errors["WitnessOf"] = oil.WitnessOf(p, wrong, class, -1)
	_, errors["IsPermitted"] = oil.IsPermitted(p, wrong, class, -1)
	_, errors["ScaleFor"] = oil.ScaleFor(p, wrong, class, -1)
	_, errors["Bottles"] = oil.Bottles(p, 0)
	_, errors["FewestFor"] = oil.FewestFor(p, class, -1)
	_, errors["SafeFor"] = oil.SafeFor(p, class[0], -1)
	_, errors["CheckSafe"] = oil.CheckSafe(p, class[0], -1, []api.OilState{wrong})
	return errors
}

// mustBeSafe returns the safe states.
func mustBeSafe(t *testing.T, p api.OilPlant, demand api.Range, limit int) []api.OilState {
	t.Helper()
	safe, e := oil.SafeFor(p, demand, limit)
	if e != api.OK {
		t.Fatal(p, demand, limit, e)
	}
	return safe
}
