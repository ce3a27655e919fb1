package hybrid_test

import (
	"math"
	"slices"
	"testing"

	"ductility/api"
	"ductility/hybrid"
)

// P8.3, example 6
func TestReachedBy(t *testing.T) {
	free := api.HybridTest{Mass: 1, Bound: 1, Forces: to(0, 1)}
	for _, y := range []struct {
		x    api.HybridTest
		want [][]int
	}{
		{followingTest(to(0, 1)), rows([]int{0, 0}, []int{0, 1}, []int{1, 0}, []int{1, 1})},
		{followingTest(to(0, 2)), rows([]int{0, 0}, []int{0, 1}, []int{1, 0}, []int{1, 1})},
		{followingTest(to(-1, -1)), rows([]int{-1, -1}, []int{-1, 0}, []int{0, 0})},
		{followingTest(to(2, 2)), rows([]int{0, 0})},
		{free, rows([]int{0, 0}, []int{1, 0})},
		{with(free, func(x *api.HybridTest) { x.Bound, x.Delay = 2, 1 }), rows([]int{0, 0, 0}, []int{1, 0, 0}, []int{2, 1, 0})},
		{api.HybridTest{Mass: 1, Delay: 2}, rows([]int{0, 0, 0, 0})},
		{api.HybridTest{Mass: 1, Delay: 2, Forces: to(-1, 1)}, rows([]int{0, 0, 0, 0})},
	} {
		reached, e := hybrid.ReachedBy(y.x)
		mustBe(t, y.x, reached, e, y.want, api.OK)
	}
}

// P8.3, example 6 and edge cases
func TestHolds(t *testing.T) {
	for _, y := range []struct {
		x    api.HybridTest
		want bool
	}{
		{followingTest(to(0, 1)), true},
		{followingTest(to(-1, 1)), true},
		{followingTest(to(0, 2)), false},
		{followingTest(to(-2, 0)), false},
		{exampleTest(), false},
		{api.HybridTest{Mass: 1}, true},                             // nothing ever moves it
		{api.HybridTest{Mass: 9, Forces: to(0, 8)}, true},           // 8/9 is 0
		{api.HybridTest{Mass: 9, Forces: to(0, 8), Delay: 2}, true}, // 8/9 is 0
		{api.HybridTest{Mass: 9, Forces: to(1, 9)}, false},
		{api.HybridTest{Mass: 9, Forces: to(-1, 0)}, false}, // -1/9 is -1
		{api.HybridTest{Mass: 1, Bound: 3, Forces: to(1, 1)}, false},
		{api.HybridTest{Mass: 1, Bound: 3, Forces: to(-1, 0)}, false},
		{api.HybridTest{Mass: 1, Bound: 3}, true},
	} {
		holds, e := hybrid.Holds(y.x)
		mustBe(t, y.x, holds, e, y.want, api.OK)
	}
}

// P8.3, example 6, and edge cases: without stiffness and damping each force goes on for ever.
func TestBrokenBy(t *testing.T) {
	free := func(forces api.Range) api.HybridTest { return api.HybridTest{Mass: 1, Bound: 3, Forces: forces} }
	for _, y := range []struct {
		x    api.HybridTest
		want []int
	}{
		{followingTest(to(0, 2)), []int{2}},
		{followingTest(to(-3, 3)), []int{-3}},
		{free(to(0, 1)), []int{1, 0, 1}}, // 1, 2, 4
		{free(to(1, 1)), []int{1, 1, 1}}, // 1, 3, 6
		{free(to(-1, 0)), []int{-1, -1, -1}},
		{free(to(-1, 1)), []int{-1, -1, -1}},
		{free(to(2, 3)), []int{2, 2}},
		{free(to(4, 9)), []int{4}},
		{with(free(to(0, 1)), func(x *api.HybridTest) { x.Bound = 0 }), []int{1}},
		{with(free(to(0, 1)), func(x *api.HybridTest) { x.Bound, x.Delay = 0, 2 }), []int{1}},
		{exampleTest(), []int{8, 6}},                                                                 // 2, 4 + (6 - 2 - 4)/4
		{with(exampleTest(), func(x *api.HybridTest) { x.Forces = to(0, 5) }), []int{4, 3, 0, 0, 0}}, // 1, 2, 1, -2, -4
	} {
		forces, e := hybrid.BrokenBy(y.x)
		mustBe(t, y.x, forces, e, y.want, api.OK)
	}
	for _, x := range []api.HybridTest{followingTest(to(0, 1)), with(free(to(0, 1)), func(x *api.HybridTest) { x.Mass = 2 }), free(to(0, 0)), {Mass: 1}} {
		forces, e := hybrid.BrokenBy(x)
		mustFail(t, x, forces, e, api.ErrNone)
	}
}

// P8.3
func TestGreatestDelay(t *testing.T) {
	counts := map[int]int{}
	random := fixedRandom()
	for range 600 {
		x := calmTest(random)
		want := -1
		for delay := range api.MaxHybridDelay + 1 {
			_, holds := reachedByHand(with(x, func(x *api.HybridTest) { x.Delay = delay }))
			if !holds {
				break
			}
			want = delay
		}
		counts[want]++
		for x.Delay = range api.MaxHybridDelay + 1 {
			delay, e := hybrid.GreatestDelay(x)
			if want < 0 {
				mustFail(t, x, delay, e, api.ErrNone)
			} else {
				mustBe(t, x, delay, e, want, api.OK)
			}
		}
	}
	for want := -1; want <= api.MaxHybridDelay; want++ {
		if counts[want] == 0 {
			t.Error("no test with the greatest delay", want, counts)
		}
	}
}

// P8.3: a test that holds with a delay, but not with a smaller one, has a smaller greatest delay.
func TestDelaysWithoutGaps(t *testing.T) {
	found := 0
	random := fixedRandom()
	for range 3000 {
		x := calmTest(random)
		var holds [api.MaxHybridDelay + 1]bool
		for delay := range holds {
			holds[delay], _ = hybrid.Holds(with(x, func(x *api.HybridTest) { x.Delay = delay }))
		}
		if !holds[2] || holds[0] && holds[1] {
			continue
		}
		found++
		delay, e := hybrid.GreatestDelay(x)
		if holds[0] {
			mustBe(t, x, delay, e, 0, api.OK)
		} else {
			mustFail(t, x, delay, e, api.ErrNone)
		}
	}
	if found == 0 {
		t.Error("no test that holds with the delay 2, but not with a smaller one")
	}
}

// closedExample returns the reached states of the example 6.
func closedExample() [][]int { return rows([]int{0, 0}, []int{0, 1}, []int{1, 0}, []int{1, 1}) }

// P8.3, example 6
func TestCheckClosed(t *testing.T) {
	x := followingTest(to(0, 1))
	larger := rows([]int{-1, -1}, []int{-1, 0}, []int{0, -1}, []int{0, 0}, []int{0, 1}, []int{1, -1}, []int{1, 0}, []int{1, 1})
	for _, y := range []struct {
		name   string
		x      api.HybridTest
		states [][]int
		index  int
		want   api.Errno
	}{
		{"reached", x, closedExample(), 0, api.OK},
		{"more than reached", x, larger, 0, api.OK},
		{"one of them not needed", x, rows([]int{-1, 1}, []int{0, -1}, []int{0, 0}, []int{0, 1}, []int{1, -1}, []int{1, 0}, []int{1, 1}), 0, api.OK},
		{"the beginning alone", followingTest(to(0, 0)), rows([]int{0, 0}), 0, api.OK},
		{"nothing", x, nil, 0, api.ErrMissing},
		{"empty", x, rows(), 0, api.ErrMissing},
		{"not the beginning", x, closedExample()[1:], 0, api.ErrMissing},
		{"not the beginning, although it breaks", followingTest(to(2, 2)), rows([]int{1, 1}), 0, api.ErrMissing},
		{"open at the first one", x, rows([]int{0, 0}, []int{0, 1}, []int{1, 1}), 0, api.ErrOpen},
		{"open at the second one", x, rows([]int{0, 0}, []int{1, 0}, []int{1, 1}), 1, api.ErrOpen},
		{"open at the last one", x, closedExample()[:3], 2, api.ErrOpen},
		{"breaks", followingTest(to(0, 2)), closedExample(), 0, api.ErrBreak},
		{"breaks by the least force", followingTest(to(-2, 0)), closedExample(), 0, api.ErrBreak},
		{"open before it breaks", followingTest(to(1, 2)), closedExample()[:1], 0, api.ErrBreak},
		{"shape", x, rows([]int{9}, []int{9, 9}), 0, api.ErrShape},
		{"shape of the second one", x, rows([]int{0, 0}, []int{0, 0, 0}), 1, api.ErrShape},
		{"no state", x, rows([]int{0, 0}, nil), 1, api.ErrShape},
		{"range", x, rows([]int{-1, 2}, []int{-1, 2}), 0, api.ErrRange},
		{"range of the second one", x, rows([]int{0, 0}, []int{-2, 0}), 1, api.ErrRange},
		{"the greatest", x, rows([]int{0, 0}, []int{1, math.MaxInt}), 1, api.ErrRange},
		{"the smallest", x, rows([]int{math.MinInt, 0}), 0, api.ErrRange},
		{"twice", x, rows([]int{0, 1}, []int{0, 1}), 1, api.ErrOrder},
		{"order", x, rows([]int{0, 1}, []int{0, 0}, []int{9, 9}), 1, api.ErrOrder},
		{"order of the last one", x, append(closedExample(), []int{1, 0}), 4, api.ErrOrder},
		{"order before the beginning that is missing", x, rows([]int{1, 1}, []int{1, 0}), 1, api.ErrOrder},
		{"range before the beginning that is missing", x, rows([]int{1, 1}, []int{1, 2}), 1, api.ErrRange},
	} {
		index, e := hybrid.CheckClosed(y.x, y.states)
		mustBe(t, y.name, index, e, y.index, y.want)
	}
}

// P8.3: state by state, one that breaks after one that is open.
func TestOpenBeforeBreak(t *testing.T) {
	free := api.HybridTest{Mass: 1, Bound: 1}
	for _, y := range []struct {
		states [][]int
		index  int
		want   api.Errno
	}{
		{rows([]int{0, 0}), 0, api.OK},
		{rows([]int{0, -1}, []int{0, 0}, []int{1, -1}), 0, api.ErrOpen},
		{rows([]int{0, 0}, []int{1, -1}), 1, api.ErrBreak},
		{rows([]int{-1, 1}, []int{0, -1}, []int{0, 0}), 0, api.ErrBreak},
	} {
		index, e := hybrid.CheckClosed(free, y.states)
		mustBe(t, y.states, index, e, y.index, y.want)
	}
}

// P8.3, P8.9: by hand; the reached states are a closed set, or there are forces that break the test.
func TestHeldOrBroken(t *testing.T) {
	held, broken := 0, 0
	random := fixedRandom()
	for i := range 600 {
		x := []api.HybridTest{someTest(random), calmTest(random), calmTest(random)}[i%3]
		want, wantHolds := reachedByHand(x)
		reached, e := hybrid.ReachedBy(x)
		mustBe(t, x, reached, e, want, api.OK)
		holds, e := hybrid.Holds(x)
		mustBe(t, x, holds, e, wantHolds, api.OK)
		forces, e := hybrid.BrokenBy(x)
		index, closedError := hybrid.CheckClosed(x, reached)
		if holds {
			held++
			mustFail(t, x, forces, e, api.ErrNone)
			mustBe(t, x, index, closedError, 0, api.OK)
			continue
		}
		broken++
		mustBe(t, x, forces, e, brokenByHand(x, len(forces)), api.OK)
		if closedError != api.ErrBreak {
			t.Error(x, index, closedError)
		}
		if len(forces) > api.MaxHybridSteps {
			continue
		}
		run, e := hybrid.RunOf(x, forces)
		if e != api.OK || len(run) != len(forces)+1 || !isOut(x, run[len(run)-1]) {
			t.Error(x, forces, run, e)
		}
		inside, e := hybrid.RunOf(x, forces[:len(forces)-1])
		if e != api.OK || len(inside) != len(forces) || slices.ContainsFunc(inside, func(n int) bool { return isOut(x, n) }) {
			t.Error(x, forces, inside, e)
		}
	}
	if held < 100 || broken < 100 {
		t.Error(held, broken)
	}
}

// P8.3: without one of its states a reached set is not closed.
func TestWithoutOneState(t *testing.T) {
	random := fixedRandom()
	for range 200 {
		x := calmTest(random)
		reached, _ := hybrid.ReachedBy(x)
		holds, _ := hybrid.Holds(x)
		if !holds {
			continue
		}
		without := random.IntN(len(reached))
		index, e := hybrid.CheckClosed(x, slices.Delete(slices.Clone(reached), without, without+1))
		if areSame(reached[without], make([]int, x.Delay+2)) {
			mustBe(t, x, index, e, 0, api.ErrMissing)
			continue
		}
		first := 0
		for first < len(reached) && (first == without || !leadsTo(x, reached[first], reached[without])) {
			first++
		}
		if first > without {
			first--
		}
		mustBe(t, x, index, e, first, api.ErrOpen)
	}
}

// leadsTo tells whether a state is a next state of another one.
func leadsTo(x api.HybridTest, from, to []int) bool {
	return slices.ContainsFunc(permitted(x), func(force int) bool {
		next, e := hybrid.NextOf(x, from, force)
		return e == api.OK && slices.Equal(next, to)
	})
}

// P8.10: a test that holds holds with fewer forces, and with a greater bound.
func TestFewerForces(t *testing.T) {
	random := fixedRandom()
	held := 0
	for range 600 {
		x := calmTest(random)
		if holds, _ := hybrid.Holds(x); !holds {
			continue
		}
		held++
		for bound := x.Bound; bound <= api.MaxHybridBound; bound++ {
			for lo := x.Forces.Lo; lo <= x.Forces.Hi; lo++ {
				for hi := lo; hi <= x.Forces.Hi; hi++ {
					holds, e := hybrid.Holds(with(x, func(x *api.HybridTest) { x.Bound, x.Forces = bound, to(lo, hi) }))
					mustBe(t, x, holds, e, true, api.OK)
				}
			}
		}
	}
	if held < 50 {
		t.Error(held)
	}
}

// R2: the greatest tests end.
func TestGreatestTests(t *testing.T) {
	for _, compensates := range []bool{false, true} {
		x := api.HybridTest{Mass: 8, Damping: 12, Computed: 2, Shaken: 2, Delay: 2, Compensates: compensates, Bound: 3, Forces: to(-4, 4)}
		want, wantHolds := reachedByHand(x)
		reached, e := hybrid.ReachedBy(x)
		mustBe(t, "reached", reached, e, want, api.OK)
		holds, e := hybrid.Holds(x)
		mustBe(t, "holds", holds, e, wantHolds, api.OK)
	}
}

// P8.3: the error of the test
func TestErrorsOfBounds(t *testing.T) {
	for _, b := range badTests() {
		reached, e := hybrid.ReachedBy(b.x)
		mustFail(t, b.name, reached, e, b.want)
		holds, e := hybrid.Holds(b.x)
		mustFail(t, b.name, holds, e, b.want)
		forces, e := hybrid.BrokenBy(b.x)
		mustFail(t, b.name, forces, e, b.want)
		delay, e := hybrid.GreatestDelay(b.x)
		mustFail(t, b.name, delay, e, b.want)
		for _, states := range [][][]int{nil, rows([]int{0, 0, 0}), rows(nil, nil)} {
			index, e := hybrid.CheckClosed(b.x, states)
			mustFail(t, b.name, index, e, b.want)
		}
	}
	forces, e := hybrid.BrokenBy(followingTest(to(0, 1)))
	mustFail(t, "holds", forces, e, api.ErrNone)
}
