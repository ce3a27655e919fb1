package hybrid_test

import (
	"math"
	"testing"

	"ductility/api"
	"ductility/hybrid"
)

// P8.1
func TestCheckTest(t *testing.T) {
	for _, x := range goodTests() {
		if e := hybrid.CheckTest(x); e != api.OK {
			t.Error(x, e)
		}
	}
	for _, x := range badTests() {
		if e := hybrid.CheckTest(x.x); e != x.want {
			t.Error(x.name, x.x, e, x.want)
		}
	}
}

// P8.1: both ends of all ranges are permitted.
func TestEndsOfTests(t *testing.T) {
	for _, x := range []api.HybridTest{
		{Mass: 1}, {Mass: 1000}, {Mass: 1, Damping: 1000}, {Mass: 1, Computed: 1000}, {Mass: 1, Shaken: 1000}, {Mass: 1, Delay: 2}, {Mass: 1, Bound: 3},
		{Mass: 1, Forces: to(1000, 1000)}, {Mass: 1, Forces: to(-1000, -1000)}, {Mass: 1, Forces: to(992, 1000)}, {Mass: 1, Forces: to(-1000, -992)}, {Mass: 1, Forces: to(-4, 4)},
	} {
		if e := hybrid.CheckTest(x); e != api.OK {
			t.Error(x, e)
		}
	}
}

// P8.1
func TestCheckState(t *testing.T) {
	x := exampleTest()
	for _, s := range rows([]int{0, 0, 0}, []int{3, -3, 3}, []int{-3, 3, -3}, []int{2, 0, 0}) {
		if e := hybrid.CheckState(x, s); e != api.OK {
			t.Error(s, e)
		}
	}
	for _, b := range badStates() {
		if e := hybrid.CheckState(x, b.s); e != b.want {
			t.Error(b.s, e, b.want)
		}
	}
	for delay := range 3 {
		x.Delay = delay
		for length := range 7 {
			want := api.ErrShape
			if length == delay+2 {
				want = api.OK
			}
			if e := hybrid.CheckState(x, make([]int, length)); e != want {
				t.Error(delay, length, e)
			}
		}
	}
}

// P8.1, P8.2: the errors of the test come before those of the state, and these before that of the force.
func TestErrorsOfStates(t *testing.T) {
	for _, b := range badTests() {
		for _, s := range rows(nil, []int{0, 0}, []int{0, 0, 0}, []int{99, 0, 0}, []int{0, 0, 0, 0}) {
			if e := hybrid.CheckState(b.x, s); e != b.want {
				t.Error(b.name, e, b.want)
			}
			command, e := hybrid.CommandOf(b.x, s)
			mustFail(t, b.name, command, e, b.want)
			at, e := hybrid.ActuatorsAt(b.x, s)
			mustFail(t, b.name, at, e, b.want)
			next, e := hybrid.NextOf(b.x, s, 2000)
			mustFail(t, b.name, next, e, b.want)
		}
	}
	for _, b := range badStates() {
		for _, x := range []api.HybridTest{exampleTest(), compensating()} {
			command, e := hybrid.CommandOf(x, b.s)
			mustFail(t, b.s, command, e, b.want)
			at, e := hybrid.ActuatorsAt(x, b.s)
			mustFail(t, b.s, at, e, b.want)
			next, e := hybrid.NextOf(x, b.s, 9)
			mustFail(t, b.s, next, e, b.want)
		}
	}
}

// P8.1, example 3
func TestCommands(t *testing.T) {
	for _, x := range []struct {
		delay                                   int
		s                                       []int
		command, ahead, actuators, actuatorsOff int
	}{
		{1, []int{2, 0, 0}, 2, 4, 0, 0},
		{1, []int{2, 2, 0}, 2, 2, 4, 2},
		{1, []int{-1, 2, 3}, -1, -4, 1, 2},
		{0, []int{2, 0}, 2, 2, 2, 2},
		{0, []int{-3, 3}, -3, -3, -3, -3},
		{2, []int{1, 0, 0, 0}, 1, 3, 0, 0},
		{2, []int{3, -3, 3, -3}, 3, 15, 15, 3},
		{2, []int{0, 0, -1, 1}, 0, 0, -5, -1},
		{2, []int{0, 1, 2, 3}, 0, -2, 0, 2},
	} {
		plain := with(exampleTest(), func(t *api.HybridTest) { t.Delay = x.delay })
		compensates := with(plain, func(t *api.HybridTest) { t.Compensates = true })
		command, e := hybrid.CommandOf(plain, x.s)
		mustBe(t, x, command, e, x.command, api.OK)
		command, e = hybrid.CommandOf(compensates, x.s)
		mustBe(t, x, command, e, x.ahead, api.OK)
		at, e := hybrid.ActuatorsAt(plain, x.s)
		mustBe(t, x, at, e, x.actuatorsOff, api.OK)
		at, e = hybrid.ActuatorsAt(compensates, x.s)
		mustBe(t, x, at, e, x.actuators, api.OK)
	}
}

// P8.1: the actuators are at the command of the step that was so many steps ago.
func TestActuatorsFollow(t *testing.T) {
	random := fixedRandom()
	for range 300 {
		x := calmTest(random)
		run := runByHand(x, someForces(random, x, 10))
		run = run[:len(run)-1]
		for i := range run {
			s := stateByHand(x, run[:i+1])
			at, e := hybrid.ActuatorsAt(x, s)
			want := 0
			if i >= x.Delay {
				command, _ := hybrid.CommandOf(x, stateByHand(x, run[:i+1-x.Delay]))
				want = command
			}
			mustBe(t, run, at, e, want, api.OK)
		}
	}
}

// P8.2, examples 1 and 2
func TestNextOf(t *testing.T) {
	x, free := exampleTest(), api.HybridTest{Mass: 1, Bound: 3, Forces: to(-1, 1)}
	for _, y := range []struct {
		x     api.HybridTest
		s     []int
		force int
		want  []int
	}{
		{x, []int{0, 0, 0}, 8, []int{2, 0, 0}},
		{x, []int{2, 0, 0}, 0, []int{2, 2, 0}},
		{x, []int{2, 2, 0}, 0, []int{0, 2, 2}},
		{compensating(), []int{2, 2, 0}, 0, []int{-1, 2, 2}},
		{x, []int{0, 0, 0}, 3, []int{0, 0, 0}},
		{x, []int{0, 0, 0}, 4, []int{1, 0, 0}},
		{x, []int{0, 0, 0}, 0, []int{0, 0, 0}},
		{x, []int{-1, -1, -1}, 0, []int{0, -1, -1}},
		{x, []int{1, 1, 1}, 3, []int{0, 1, 1}}, // -1/4 is -1
		{x, []int{1, 1, 1}, 4, []int{1, 1, 1}},
		{free, []int{2, 1}, 0, []int{3, 2}},
		{free, []int{2, 1}, -1, []int{2, 2}},
		{free, []int{-2, -1}, 1, []int{-2, -2}},
	} {
		next, e := hybrid.NextOf(y.x, y.s, y.force)
		mustBe(t, y, next, e, y.want, api.OK)
	}
	for _, y := range []struct {
		x     api.HybridTest
		s     []int
		force int
		want  api.Errno
	}{
		{x, []int{0, 0, 0}, 9, api.ErrMissing},
		{x, []int{0, 0, 0}, -1, api.ErrMissing},
		{x, []int{3, 0, 0}, 9, api.ErrMissing},
		{x, []int{0, 0, 0}, math.MaxInt, api.ErrMissing},
		{x, []int{0, 0, 0}, math.MinInt, api.ErrMissing},
		{x, []int{3, 0, 0}, 8, api.ErrBreak},
		{free, []int{3, 2}, 0, api.ErrBreak},
		{free, []int{-3, -2}, 0, api.ErrBreak},
		{free, []int{3, 2}, -2, api.ErrMissing},
	} {
		next, e := hybrid.NextOf(y.x, y.s, y.force)
		mustFail(t, y, next, e, y.want)
	}
	if next, e := hybrid.NextOf(free, []int{3, 2}, -1); !areSame(next, []int{3, 3}) || e != api.OK {
		t.Error(next, e)
	}
}

// P8.2: by hand
func TestNextStates(t *testing.T) {
	random := fixedRandom()
	for range 3000 {
		x := someTest(random)
		s, force := someState(random, x), someForces(random, x, 1)[0]
		past := backwards(s)
		displacement := nextByHand(x, past, force)
		next, e := hybrid.NextOf(x, s, force)
		if isOut(x, displacement) {
			mustFail(t, x, next, e, api.ErrBreak)
			continue
		}
		mustBe(t, x, next, e, stateByHand(x, append(past, displacement)), api.OK)
	}
}

// P8.2, examples 1 and 2, and edge cases
func TestRunOf(t *testing.T) {
	early := with(exampleTest(), func(x *api.HybridTest) { x.Delay = 0 })
	free := api.HybridTest{Mass: 2, Bound: 3, Forces: to(-2, 2)}
	for _, y := range []struct {
		x            api.HybridTest
		forces, want []int
	}{
		{early, []int{8, 0, 0}, []int{0, 2, 1, -1}},
		{exampleTest(), []int{8, 0, 0}, []int{0, 2, 2, 0}},
		{compensating(), []int{8, 0, 0}, []int{0, 2, 2, -1}},
		{exampleTest(), nil, []int{0}},
		{exampleTest(), []int{}, []int{0}},
		{exampleTest(), make([]int, 60), make([]int, 61)},
		{exampleTest(), []int{8, 8, 8, 8, 8}, []int{0, 2, 4}},
		{exampleTest(), []int{8, 8}, []int{0, 2, 4}},
		{free, []int{2, 0, 0, 0, 0, 0}, []int{0, 1, 2, 3, 4}},
		{free, []int{2, 0, 0}, []int{0, 1, 2, 3}},
		{free, []int{-2, 0, 0, 0, 2}, []int{0, -1, -2, -3, -4}},
		{free, []int{-1, 0, 0, 0, 2}, []int{0, -1, -2, -3, -4}},
		{free, []int{1, 1, 1, -1, 1}, []int{0, 0, 0, 0, -1, -2}},
		{with(free, func(x *api.HybridTest) { x.Bound = 0 }), []int{1, 1, 0, -1, -1}, []int{0, 0, 0, 0, -1}},
	} {
		run, e := hybrid.RunOf(y.x, y.forces)
		mustBe(t, y, run, e, y.want, api.OK)
	}
}

// P8.2, P8.4: errors of runs
func TestErrorsOfRuns(t *testing.T) {
	for _, b := range badTests() {
		for _, forces := range rows(nil, []int{0}, []int{2000}, make([]int, 61)) {
			run, e := hybrid.RunOf(b.x, forces)
			mustFail(t, b.name, run, e, b.want)
			energy, e := hybrid.ErrorOf(b.x, forces, -1)
			mustFail(t, b.name, energy, e, b.want)
		}
	}
	for _, b := range allBadForces() {
		run, e := hybrid.RunOf(exampleTest(), b.forces)
		mustFail(t, b.name, run, e, b.want)
		for _, off := range []int{0, -1} {
			energy, e := hybrid.ErrorOf(exampleTest(), b.forces, off)
			mustFail(t, b.name, energy, e, b.want)
		}
	}
	for _, off := range []int{-1, 1001, math.MaxInt, math.MinInt} {
		energy, e := hybrid.ErrorOf(exampleTest(), []int{8, 0, 0}, off)
		mustFail(t, off, energy, e, api.ErrRange)
	}
}

// P8.2: by hand; and each next state is that of the run.
func TestRuns(t *testing.T) {
	random := fixedRandom()
	for i := range 1000 {
		x := []api.HybridTest{someTest(random), calmTest(random)}[i%2]
		forces := someForces(random, x, random.IntN(api.MaxHybridSteps+1))
		want := runByHand(x, forces)
		run, e := hybrid.RunOf(x, forces)
		mustBe(t, x, run, e, want, api.OK)
		s := make([]int, x.Delay+2)
		for step, displacement := range want[1:] {
			next, e := hybrid.NextOf(x, s, forces[step])
			if isOut(x, displacement) {
				mustFail(t, x, next, e, api.ErrBreak)
				break
			}
			mustBe(t, x, next, e, stateByHand(x, want[:step+2]), api.OK)
			s = next
		}
	}
}

// P8.2, example 5
func TestWholeOf(t *testing.T) {
	whole, e := hybrid.WholeOf(exampleTest())
	mustBe(t, "example", whole, e, api.HybridTest{Mass: 4, Damping: 1, Computed: 4, Bound: 3, Forces: to(0, 8)}, api.OK)
	whole, e = hybrid.WholeOf(compensating())
	mustBe(t, "compensating", whole, e, api.HybridTest{Mass: 4, Damping: 1, Computed: 4, Compensates: true, Bound: 3, Forces: to(0, 8)}, api.OK)
	for computed, want := range map[int]api.Errno{999: api.OK, 1000: api.ErrLarge, 0: api.OK} {
		x := api.HybridTest{Mass: 1000, Damping: 1000, Computed: computed, Shaken: 1, Delay: 2, Bound: 3, Forces: to(1, 1)}
		wanted := api.HybridTest{Mass: 1000, Damping: 1000, Computed: computed + 1, Bound: 3, Forces: to(1, 1)}
		if want != api.OK {
			wanted = api.HybridTest{}
		}
		whole, e = hybrid.WholeOf(x)
		mustBe(t, computed, whole, e, wanted, want)
		x.Computed, x.Shaken = 1, computed
		whole, e = hybrid.WholeOf(x)
		mustBe(t, computed, whole, e, wanted, want)
	}
	for _, b := range badTests() {
		whole, e = hybrid.WholeOf(b.x)
		mustFail(t, b.name, whole, e, b.want)
		// This error comes last.
		if b.want != api.ErrRange {
			b.x.Computed, b.x.Shaken = 1000, 1000
			whole, e = hybrid.WholeOf(b.x)
			mustFail(t, b.name, whole, e, b.want)
		}
	}
}

// P8.4, example 4
func TestErrorOf(t *testing.T) {
	early := with(exampleTest(), func(x *api.HybridTest) { x.Delay = 0 })
	for _, y := range []struct {
		x      api.HybridTest
		forces []int
		off    int
		want   api.Range
	}{
		{exampleTest(), []int{8, 0, 0}, 0, to(-8, -8)},
		{exampleTest(), []int{8, 0, 0}, 1, to(-14, -2)},
		{exampleTest(), []int{8, 0, 0}, 1000, to(-6008, 5992)},
		{exampleTest(), nil, 1000, to(0, 0)},
		{exampleTest(), []int{0, 0}, 1000, to(0, 0)},
		{exampleTest(), []int{8}, 3, to(-6, 6)},
		// The third displacement is the last one: it leaves the bound. 2 (0 - 2) 4 = -16.
		{exampleTest(), []int{8, 8, 8, 8}, 1, to(-22, -10)},
		{exampleTest(), []int{8, 8}, 1, to(-22, -10)},
		// The actuators are at 2 + 2: 2 (4 - 2) (-3) = -12.
		{compensating(), []int{8, 0, 0}, 1, to(-27, -13)},
		{early, []int{8, 0, 0}, 1, to(-6, 6)},
	} {
		energy, e := hybrid.ErrorOf(y.x, y.forces, y.off)
		mustBe(t, y, energy, e, y.want, api.OK)
	}
}

// P8.4: by hand
func TestErrorsOfEnergy(t *testing.T) {
	random := fixedRandom()
	for i := range 1000 {
		x := []api.HybridTest{someTest(random), calmTest(random)}[i%2]
		forces := someForces(random, x, random.IntN(api.MaxHybridSteps+1))
		off := []int{0, random.IntN(5), random.IntN(1001)}[random.IntN(3)]
		run := runByHand(x, forces)
		var want api.Range
		for now := range len(run) - 1 {
			before := 0
			if now > 0 {
				before = run[now-1]
			}
			s := stateByHand(x, run[:now+1])
			at, e := hybrid.ActuatorsAt(x, s)
			if e != api.OK {
				t.Error(x, s, e)
			}
			w := run[now+1] - before
			want.Lo += x.Shaken*(at-run[now])*w - off*int(math.Abs(float64(w)))
			want.Hi += x.Shaken*(at-run[now])*w + off*int(math.Abs(float64(w)))
		}
		energy, e := hybrid.ErrorOf(x, forces, off)
		mustBe(t, x, energy, e, want, api.OK)
	}
}

// P8.8: without delay the run is that of the whole, and nothing is wrong with its energy.
func TestWholeRuns(t *testing.T) {
	random := fixedRandom()
	for range 1000 {
		x := someTest(random)
		x.Delay, x.Computed, x.Shaken = 0, x.Computed/2, x.Shaken/2
		whole, e := hybrid.WholeOf(x)
		if e != api.OK || whole.Shaken != 0 {
			t.Fatal(x, e)
		}
		forces := someForces(random, x, 20)
		run, e := hybrid.RunOf(x, forces)
		other, _ := hybrid.RunOf(whole, forces)
		mustBe(t, x, run, e, other, api.OK)
		energy, e := hybrid.ErrorOf(x, forces, 0)
		mustBe(t, x, energy, e, to(0, 0), api.OK)
	}
}

// P8.1: a test that compensates without delay is one that does not.
func TestCompensatingWithoutDelay(t *testing.T) {
	random := fixedRandom()
	for range 300 {
		x := someTest(random)
		x.Delay, x.Compensates = 0, true
		other := with(x, func(x *api.HybridTest) { x.Compensates = false })
		forces := someForces(random, x, 20)
		run, e := hybrid.RunOf(x, forces)
		same, _ := hybrid.RunOf(other, forces)
		mustBe(t, x, run, e, same, api.OK)
		s := someState(random, x)
		command, e := hybrid.CommandOf(x, s)
		mustBe(t, x, command, e, s[0], api.OK)
	}
}
