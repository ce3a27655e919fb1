package oil_test

import (
	"math/big"
	"slices"
	"testing"

	"ductility/api"
	"ductility/oil"
)

// exampleClass returns the class of the examples.
func exampleClass() []api.Range { return classOf(10, 12, 0, 2) }

// P3.3
func TestClassErrors(t *testing.T) {
	p, limit := examplePlant(), -1
	check := func(name string, class []api.Range, index int, want api.Errno) {
		t.Helper()
		if i, e := oil.CheckClass(class); i != index || e != want {
			t.Error(name, i, e)
		}
		if l, e := oil.ReachedBy(p, still(0), class); len(l) != 0 || e != want {
			t.Error(name, l, e)
		}
		if at, f, e := oil.LowestIn(p, still(0), class); at != 0 || f != (api.Frac{}) || e != want {
			t.Error(name, at, f, e)
		}
		if l, e := oil.WitnessOf(p, still(0), class, limit); len(l) != 0 || e != want {
			t.Error(name, l, e)
		}
		if is, e := oil.IsPermitted(p, still(0), class, limit); is || e != want {
			t.Error(name, is, e)
		}
		if l, e := oil.Scaled(class, -1); len(l) != 0 || e != want {
			t.Error(name, l, e)
		}
		if n, e := oil.ScaleFor(p, still(0), class, limit); n != 0 || e != want {
			t.Error(name, n, e)
		}
		if n, e := oil.FewestFor(p, class, limit); n != 0 || e != want {
			t.Error(name, n, e)
		}
	}
	check("21 ranges", slices.Repeat(classOf(3, 51), 21), 0, api.ErrLarge)
	for _, x := range badRanges() {
		check(x.name, []api.Range{x.demands, {Lo: 51}}, 0, x.want)
		check(x.name, []api.Range{{Lo: 0, Hi: 50}, {}, x.demands, {Lo: 1}}, 2, x.want)
	}
	for _, class := range [][]api.Range{nil, {}, classOf(0, 0), classOf(50, 50), slices.Repeat(classOf(0, 50), 20)} {
		if i, e := oil.CheckClass(class); i != 0 || e != api.OK {
			t.Error(class, i, e)
		}
	}
}

// P3.3: the error of the state is before that of the class, and this before that of the limit.
func TestErrorsOfStatesAndLimits(t *testing.T) {
	p := examplePlant()
	for _, s := range []api.OilState{still(-1), running(31)} {
		if l, e := oil.ReachedBy(p, s, classOf(3, 2)); len(l) != 0 || e != api.ErrRange {
			t.Error(s, l, e)
		}
		if at, f, e := oil.LowestIn(p, s, classOf(3, 2)); at != 0 || f != (api.Frac{}) || e != api.ErrRange {
			t.Error(s, at, f, e)
		}
		if l, e := oil.WitnessOf(p, s, classOf(3, 2), 0); len(l) != 0 || e != api.ErrRange {
			t.Error(s, l, e)
		}
		if is, e := oil.IsPermitted(p, s, classOf(3, 2), 0); is || e != api.ErrRange {
			t.Error(s, is, e)
		}
		if n, e := oil.ScaleFor(p, s, classOf(3, 2), 0); n != 0 || e != api.ErrRange {
			t.Error(s, n, e)
		}
	}
	for _, limit := range []int{-1, 1001} {
		if l, e := oil.WitnessOf(p, still(30), nil, limit); len(l) != 0 || e != api.ErrRange {
			t.Error(limit, l, e)
		}
		if is, e := oil.IsPermitted(p, still(30), nil, limit); is || e != api.ErrRange {
			t.Error(limit, is, e)
		}
		if n, e := oil.ScaleFor(p, still(30), nil, limit); n != 0 || e != api.ErrRange {
			t.Error(limit, n, e)
		}
		if n, e := oil.FewestFor(p, nil, limit); n != 0 || e != api.ErrRange {
			t.Error(limit, n, e)
		}
	}
}

// P3.3, example 3
func TestReached(t *testing.T) {
	p := examplePlant()
	for _, x := range []struct {
		name  string
		s     api.OilState
		class []api.Range
		want  []api.OilState
		e     api.Errno
	}{
		{"first tick of the example", still(30), classOf(10, 12), []api.OilState{still(18), still(19), still(20)}, api.OK},
		{"example", still(30), exampleClass(), []api.OilState{still(16), still(17), still(18), still(19), still(20)}, api.OK},
		{"no ranges", running(30), nil, []api.OilState{running(30)}, api.OK},
		{"not running before running", still(18), classOf(4, 8, 0, 2), []api.OilState{
			running(9), running(10), still(11), still(12), running(12), still(13), running(13), still(14), running(14)}, api.OK},
		{"all that is there", still(8), classOf(8, 8), []api.OilState{running(0)}, api.OK},
		{"lost", running(30), classOf(0, 5), []api.OilState{still(29), still(30)}, api.OK},
		{"the greatest demand empties", still(8), classOf(0, 9), nil, api.ErrBreak},
		{"empties at last", still(30), classOf(20, 20, 15, 15), nil, api.ErrBreak},
		{"empties before the last", still(8), classOf(8, 9, 0, 0), nil, api.ErrBreak},
	} {
		if l, e := oil.ReachedBy(p, x.s, x.class); !slices.Equal(l, x.want) || e != x.e {
			t.Error(x.name, l, e)
		}
	}
}

// reachedByHand looks at all demands of a class that does not empty the plant.
func reachedByHand(p api.OilPlant, s api.OilState, class []api.Range) []api.OilState {
	var all []api.OilState
	walk(p, s, class, func(demands []int, s api.OilState, _ bool) {
		if len(demands) == len(class) {
			all = append(all, s)
		}
	})
	slices.SortFunc(all, compareStates)
	return slices.Compact(all)
}

// P3.3, examples 3 and 4
func TestLowest(t *testing.T) {
	p := examplePlant()
	for _, x := range []struct {
		name  string
		s     api.OilState
		class []api.Range
		at    int
		want  api.Frac
		e     api.Errno
	}{
		{"example", still(30), exampleClass(), 2, api.Frac{Num: 165, Den: 1}, api.OK},
		{"no ranges", running(11), nil, 0, api.Frac{Num: 305, Den: 2}, api.OK},
		{"the first state", running(5), classOf(0, 4, 0, 4), 0, api.Frac{Num: 125, Den: 1}, api.OK},
		{"in the middle", still(30), classOf(21, 25, 0, 2), 1, api.Frac{Num: 125, Den: 1}, api.OK},
		{"for the first time", still(30), classOf(15, 15, 0, 0, 0, 0), 1, api.Frac{Num: 325, Den: 2}, api.OK},
		{"nothing left", still(30), classOf(30, 30), 1, api.Frac{Num: 100, Den: 1}, api.OK},
		{"example 4 empties", still(30), classOf(20, 20, 20, 20), 0, api.Frac{}, api.ErrBreak},
		{"one demand too much", still(30), classOf(0, 31, 0, 0), 0, api.Frac{}, api.ErrBreak},
	} {
		if at, f, e := oil.LowestIn(p, x.s, x.class); at != x.at || f != x.want || e != x.e {
			t.Error(x.name, at, f, e)
		}
	}
}

// P3.3, example 3
func TestWitnesses(t *testing.T) {
	p := examplePlant()
	for _, x := range []struct {
		name  string
		s     api.OilState
		class []api.Range
		limit int
		want  []int
		e     api.Errno
	}{
		{"example", still(30), exampleClass(), 166, []int{12, 2}, api.OK},
		{"example, permitted", still(30), exampleClass(), 165, nil, api.ErrNone},
		{"the first state", still(30), exampleClass(), 201, nil, api.OK},
		{"the first state, without ranges", still(9), nil, 146, nil, api.OK},
		{"without ranges", still(9), nil, 145, nil, api.ErrNone},
		{"lexicographically first", still(30), exampleClass(), 168, []int{11, 2}, api.OK},
		{"the first of greater demands", still(30), classOf(0, 20, 0, 20), 175, []int{11}, api.OK},
		{"short before first", still(30), classOf(5, 25, 50, 50), 151, []int{20}, api.OK},
		{"only emptying matters", still(30), classOf(30, 30, 0, 0), 0, nil, api.ErrNone},
		{"empties", still(30), classOf(0, 31), 0, []int{31}, api.OK},
		{"empties later", still(30), classOf(3, 20, 26, 27), 0, []int{4, 27}, api.OK},
		{"the limit before emptying", still(30), classOf(20, 31), 149, []int{21}, api.OK},
		{"example 4", still(30), classOf(20, 20, 20, 20), 0, []int{20, 20}, api.OK},
		{"no pressure is enough", still(30), nil, 1000, nil, api.OK},
	} {
		if l, e := oil.WitnessOf(p, x.s, x.class, x.limit); !slices.Equal(l, x.want) || e != x.e {
			t.Error(x.name, l, e)
		}
		if is, e := oil.IsPermitted(p, x.s, x.class, x.limit); is != (x.e == api.ErrNone) || e != api.OK {
			t.Error(x.name, is, e)
		}
	}
}

// P3.8, P3.9: all demands of small classes lead to the states, and to no lower pressure.
func TestAllDemandsOfClasses(t *testing.T) {
	random := fixedRandom()
	permitted, broken, emptied := 0, 0, 0
	for range 1500 {
		p := somePlant(random, 24)
		s, class := someState(random, p), someClass(random, 4, 6)
		limit := random.IntN(600)
		witness, isBroken := witnessByHand(p, s, class, limit)
		_, isEmptied := witnessByHand(p, s, class, 0)
		got, e := oil.WitnessOf(p, s, class, limit)
		if !slices.Equal(got, witness) || (e == api.OK) != isBroken || !isBroken && e != api.ErrNone {
			t.Fatal(p, s, class, limit, got, e, witness)
		}
		is, e := oil.IsPermitted(p, s, class, limit)
		if is == isBroken || e != api.OK {
			t.Fatal(p, s, class, limit, is, e)
		}
		states, reachedError := oil.ReachedBy(p, s, class)
		at, lowest, lowestError := oil.LowestIn(p, s, class)
		if isEmptied {
			emptied++
			if len(states) != 0 || reachedError != api.ErrBreak || at != 0 || lowest != (api.Frac{}) || lowestError != api.ErrBreak || is {
				t.Fatal(p, s, class, states, reachedError, at, lowest, lowestError)
			}
			continue
		}
		if !slices.Equal(states, reachedByHand(p, s, class)) || reachedError != api.OK {
			t.Fatal(p, s, class, states, reachedError)
		}
		if wantAt, want := lowestByHand(p, s, class); at != wantAt || !isLowest(lowest, want) || lowestError != api.OK {
			t.Fatal(p, s, class, at, lowest, lowestError, wantAt, want)
		}
		if isHigh := rationalOf(lowest).Cmp(big.NewRat(int64(limit), 1)) >= 0; isHigh != is {
			t.Fatal(p, s, class, limit, lowest, is)
		}
		if is {
			permitted++
		} else {
			broken++
		}
	}
	if permitted < 100 || broken < 100 || emptied < 100 {
		t.Error("too few of one kind", permitted, broken, emptied)
	}
}

// lowestByHand looks at all demands of a class that does not empty the plant.
func lowestByHand(p api.OilPlant, s api.OilState, class []api.Range) (int, *big.Rat) {
	at, lowest := 0, pressureByHand(p, s.Volume)
	walk(p, s, class, func(demands []int, s api.OilState, _ bool) {
		order := pressureByHand(p, s.Volume).Cmp(lowest)
		if order < 0 || order == 0 && len(demands) < at {
			at, lowest = len(demands), pressureByHand(p, s.Volume)
		}
	})
	return at, lowest
}

// P3.9
func TestClassesWithinPermittedOnes(t *testing.T) {
	random := fixedRandom()
	found := 0
	for range 2000 {
		p := somePlant(random, api.MaxOilVolume)
		s, class := someState(random, p), someClass(random, api.MaxOilTicks, 9)
		limit := random.IntN(500)
		if is, _ := oil.IsPermitted(p, s, class, limit); !is || len(class) == 0 {
			continue
		}
		found++
		within := slices.Clone(class)
		for i, x := range within {
			within[i] = someRange(random, x.Lo, x.Hi)
		}
		if is, e := oil.IsPermitted(p, s, within, limit); !is || e != api.OK {
			t.Fatal(p, s, class, within, limit, e)
		}
		states, e := oil.ReachedBy(p, s, class)
		if e != api.OK {
			t.Fatal(p, s, class, e)
		}
		var demands []int
		for _, x := range within {
			demands = append(demands, x.Lo+random.IntN(x.Hi-x.Lo+1))
		}
		run, e := oil.RunOf(p, s, demands)
		if e != api.OK || !slices.Contains(states, run[len(run)-1]) {
			t.Fatal(p, s, class, demands, run, e, states)
		}
	}
	if found < 100 {
		t.Error("too few permitted classes", found)
	}
}

// P3.3: in the longest and widest class the pump gives back what was taken.
func TestWidestClass(t *testing.T) {
	p := greatPlant()
	class := slices.Repeat(classOf(0, 50), 20)
	var want []api.OilState
	for volume := 100; volume < 200; volume++ {
		want = append(want, running(volume))
	}
	want = append(want, still(200))
	if l, e := oil.ReachedBy(p, running(100), class); !slices.Equal(l, want) || e != api.OK {
		t.Error(l, e)
	}
	for volume, want := range map[int]bool{49: false, 50: true, 200: true} {
		if is, e := oil.IsPermitted(p, still(volume), class, 0); is != want || e != api.OK {
			t.Error(volume, is, e)
		}
	}
}
