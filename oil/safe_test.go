package oil_test

import (
	"math"
	"slices"
	"testing"

	"ductility/api"
	"ductility/oil"
)

// P3.5, example 5
func TestSafeStates(t *testing.T) {
	q := smallPlant()
	idle := changed(q, func(p *api.OilPlant) { p.Pump = 0 })
	for _, x := range []struct {
		name   string
		p      api.OilPlant
		demand api.Range
		limit  int
		want   []api.OilState
	}{
		{"example", q, api.Range{Lo: 0, Hi: 2}, 20, []api.OilState{running(1), running(2), still(3), running(3), still(4), running(4)}},
		{"only emptying matters", q, api.Range{Lo: 0, Hi: 2}, 0, []api.OilState{running(0), running(1), still(2), running(2), still(3), running(3), still(4), running(4)}},
		{"no demands", q, api.Range{}, 0, allStates(q)},
		{"no demands, a limit", q, api.Range{}, 40, []api.OilState{still(3), running(3), still(4), running(4)}},
		{"not high enough", q, api.Range{}, 51, nil},
		{"too great demands", q, api.Range{Lo: 0, Hi: 3}, 0, nil},
		{"too great demands alone", q, api.Range{Lo: 3, Hi: 3}, 0, nil},
		{"no pump, no demands", idle, api.Range{}, 30, []api.OilState{still(2), running(2), still(3), running(3), still(4), running(4)}},
		{"no pump", idle, api.Range{Lo: 0, Hi: 1}, 0, nil},
		{"no pump, demands from 1 on", idle, api.Range{Lo: 1, Hi: 1}, 0, nil},
	} {
		if l, e := oil.SafeFor(x.p, x.demand, x.limit); !slices.Equal(l, x.want) || e != api.OK {
			t.Error(x.name, l, e)
		}
		if i, e := oil.CheckSafe(x.p, x.demand, x.limit, x.want); i != 0 || e != api.OK {
			t.Error(x.name, i, e)
		}
	}
}

// P3.5
func TestSafeErrors(t *testing.T) {
	q := smallPlant()
	check := func(name string, demand api.Range, limit int, want api.Errno) {
		t.Helper()
		if l, e := oil.SafeFor(q, demand, limit); len(l) != 0 || e != want {
			t.Error(name, l, e)
		}
		if i, e := oil.CheckSafe(q, demand, limit, []api.OilState{running(4), still(-1)}); i != 0 || e != want {
			t.Error(name, i, e)
		}
	}
	for _, x := range badRanges() {
		check(x.name, x.demands, -1, x.want)
	}
	for _, limit := range []int{-1, 1001, math.MinInt, math.MaxInt} {
		check("limit", api.Range{Lo: 0, Hi: 2}, limit, api.ErrRange)
	}
}

// P3.5
func TestWrongSafeSets(t *testing.T) {
	q := smallPlant()
	for _, x := range []struct {
		name   string
		limit  int
		states []api.OilState
		index  int
		want   api.Errno
	}{
		{"empty", 20, nil, 0, api.OK},
		{"volume below 0", 20, []api.OilState{running(0), still(-1)}, 1, api.ErrRange},
		{"volume above", 20, []api.OilState{still(5), still(4)}, 0, api.ErrRange},
		{"smallest volume", 20, []api.OilState{still(0), still(math.MinInt)}, 1, api.ErrRange},
		{"greatest volume", 20, []api.OilState{still(0), still(1), running(math.MaxInt)}, 2, api.ErrRange},
		{"twice", 20, []api.OilState{running(0), running(0)}, 1, api.ErrOrder},
		{"running before not running", 20, []api.OilState{running(3), still(3)}, 1, api.ErrOrder},
		{"a smaller volume", 20, []api.OilState{running(0), still(4), running(3)}, 2, api.ErrOrder},
		{"order before a wrong volume", 20, []api.OilState{running(2), running(1), still(5)}, 1, api.ErrOrder},
		{"a low pressure", 20, []api.OilState{running(0), running(1), still(2), running(2), still(3), running(3), still(4), running(4)}, 0, api.ErrBreak},
		{"empties", 0, []api.OilState{running(0), running(1), still(1), running(2), still(3), running(3), still(4), running(4)}, 2, api.ErrOrder},
		{"emptied", 0, []api.OilState{running(0), still(1), running(1), still(2), running(2), still(3), running(3), still(4), running(4)}, 1, api.ErrBreak},
		{"a low pressure before what is open", 20, []api.OilState{still(0)}, 0, api.ErrBreak},
		{"what is open before a low pressure later on", 30, []api.OilState{running(2), still(3)}, 0, api.ErrOpen},
		{"leads to a low pressure", 20, []api.OilState{running(1), still(2), running(2), still(3), running(3), still(4), running(4)}, 1, api.ErrOpen},
		{"one missing", 20, []api.OilState{running(1), running(2), still(3), running(3), running(4)}, 1, api.ErrOpen},
		{"one missing that only the smallest demand leads to", 20, []api.OilState{running(1), running(2), still(3), still(4)}, 0, api.ErrOpen},
		{"the first one missing", 20, []api.OilState{running(2), still(3), running(3), still(4), running(4)}, 1, api.ErrOpen},
	} {
		if i, e := oil.CheckSafe(q, api.Range{Lo: 0, Hi: 2}, x.limit, x.states); i != x.index || e != x.want {
			t.Error(x.name, i, e)
		}
	}
	// Demands of 2 alone lead from a running state to itself.
	if i, e := oil.CheckSafe(q, api.Range{Lo: 2, Hi: 2}, 20, []api.OilState{running(1), running(3)}); i != 0 || e != api.OK {
		t.Error(i, e)
	}
}

// safeByHand marks unsafe states, round by round.
func safeByHand(p api.OilPlant, demand api.Range, limit int) []api.OilState {
	states := allStates(p)
	for {
		next := slices.DeleteFunc(slices.Clone(states), func(s api.OilState) bool {
			return !isAtLeast(p, s.Volume, limit) || !staysIn(p, s, demand, states)
		})
		if len(next) == len(states) {
			return states
		}
		states = next
	}
}

// staysIn tells whether all demands lead from a state to states of a list.
func staysIn(p api.OilPlant, s api.OilState, demand api.Range, states []api.OilState) bool {
	for d := demand.Lo; d <= demand.Hi; d++ {
		next, isLeft := nextByHand(p, s, d)
		if !isLeft || !slices.Contains(states, next) {
			return false
		}
	}
	return true
}

// closedPart returns a set that is safe: some states that are safe, and all that follow from them.
func closedPart(p api.OilPlant, demand api.Range, safe []api.OilState, isTaken func() bool) []api.OilState {
	var part []api.OilState
	for _, s := range safe {
		if isTaken() {
			part = append(part, s)
		}
	}
	for i := 0; i < len(part); i++ {
		for d := demand.Lo; d <= demand.Hi; d++ {
			if next, _ := nextByHand(p, part[i], d); !slices.Contains(part, next) {
				part = append(part, next)
			}
		}
	}
	slices.SortFunc(part, compareStates)
	return part
}

// P3.11
func TestSafeForEver(t *testing.T) {
	random := fixedRandom()
	some, reduced := 0, 0
	for range 300 {
		p := somePlant(random, 14)
		demand, limit := someRange(random, 0, p.Pump+1), random.IntN(300)
		safe := mustBeSafe(t, p, demand, limit)
		if !slices.Equal(safe, safeByHand(p, demand, limit)) {
			t.Fatal(p, demand, limit, safe)
		}
		if i, e := oil.CheckSafe(p, demand, limit, safe); i != 0 || e != api.OK {
			t.Fatal(p, demand, limit, safe, i, e)
		}
		if len(safe) == 0 {
			continue
		}
		some++
		part := closedPart(p, demand, safe, func() bool { return random.IntN(8) == 0 })
		if i, e := oil.CheckSafe(p, demand, limit, part); i != 0 || e != api.OK {
			t.Fatal(p, demand, limit, part, i, e)
		}
		for _, s := range allStates(p) {
			if slices.Contains(safe, s) {
				continue
			}
			reduced++
			more := append(slices.Clone(safe), s)
			slices.SortFunc(more, compareStates)
			if i, e := oil.CheckSafe(p, demand, limit, more); more[i] != s || e != api.ErrBreak && e != api.ErrOpen {
				t.Fatal(p, demand, limit, more, i, e)
			}
		}
		s := safe[random.IntN(len(safe))]
		class := someClass(random, api.MaxOilTicks, 0)
		for i := range class {
			class[i] = someRange(random, demand.Lo, demand.Hi)
		}
		if is, e := oil.IsPermitted(p, s, class, limit); !is || e != api.OK {
			t.Fatal(p, s, demand, class, limit, is, e)
		}
	}
	if some < 100 || reduced < 100 {
		t.Error("too few safe states, or too many", some, reduced)
	}
}

// P3.5, R4: states that follow from each other in a long line are deleted from the last one on.
func TestLongLines(t *testing.T) {
	p := changed(greatPlant(), func(p *api.OilPlant) { p.Pump = 0 })
	for range 3 {
		if l, e := oil.SafeFor(p, api.Range{Lo: 1, Hi: 1}, 0); len(l) != 0 || e != api.OK {
			t.Fatal(l, e)
		}
	}
	if l := mustBeSafe(t, p, api.Range{}, 0); !slices.Equal(l, allStates(p)) {
		t.Error(l)
	}
	if l := mustBeSafe(t, greatPlant(), api.Range{Lo: 0, Hi: 50}, 1000); len(l) != 0 {
		t.Error(l)
	}
}
