package safety_test

import (
	"math"
	"math/rand/v2"
	"slices"
	"testing"

	"ductility/api"
	"ductility/safety"
)

// exampleLimits returns the limits of the examples 3 and 4.
func exampleLimits() api.SafetyLimits {
	return api.SafetyLimits{Way: to(-10, 10), Speed: 4, Push: 2, Jerk: 1}
}

// widest returns the widest limits.
func widest() api.SafetyLimits {
	return api.SafetyLimits{Way: to(-60, 60), Speed: 8, Push: 3, Jerk: 6}
}

// motion returns a motion.
func motion(place, speed, push int) api.SafetyMotion {
	return api.SafetyMotion{Place: place, Speed: speed, Push: push}
}

// badLimit is limits with an error.
type badLimit struct {
	name string
	x    api.SafetyLimits
	want api.Errno
}

// badLimits lists all errors of limits; most of them have errors that are listed later, too.
func badLimits() []badLimit {
	l := []badLimit{{"nothing", api.SafetyLimits{}, api.ErrRange}}
	for name, field := range map[string]func(x *api.SafetyLimits) *int{
		"Speed": func(x *api.SafetyLimits) *int { return &x.Speed },
		"Push":  func(x *api.SafetyLimits) *int { return &x.Push },
		"Jerk":  func(x *api.SafetyLimits) *int { return &x.Jerk },
	} {
		most := map[string]int{"Speed": 8, "Push": 3, "Jerk": 6}[name]
		for _, n := range []int{0, -1, -most, most + 1, math.MaxInt, math.MinInt} {
			x := with(exampleLimits(), func(x *api.SafetyLimits) { *field(x) = n })
			l = append(l, badLimit{name, x, api.ErrRange})
			x.Way = to(9, -9)
			l = append(l, badLimit{name + " before the order", x, api.ErrRange})
		}
	}
	for _, way := range []api.Range{to(-61, 0), to(0, 61), to(61, 61), to(-61, -61), to(61, 0), to(0, -61), to(math.MinInt, math.MaxInt), to(math.MaxInt, math.MinInt), to(0, math.MaxInt), to(math.MinInt, 0)} {
		l = append(l, badLimit{"ends of the way", with(exampleLimits(), func(x *api.SafetyLimits) { x.Way = way }), api.ErrRange})
	}
	for _, way := range []api.Range{to(1, 0), to(60, -60), to(-59, -60), to(60, 59)} {
		l = append(l, badLimit{"order of the way", with(exampleLimits(), func(x *api.SafetyLimits) { x.Way = way }), api.ErrOrder})
	}
	return l
}

// goodLimits lists limits, those at the ends of what is permitted among them.
func goodLimits() []api.SafetyLimits {
	return []api.SafetyLimits{
		exampleLimits(), widest(),
		{Way: to(0, 0), Speed: 1, Push: 1, Jerk: 1}, {Way: to(-60, -60), Speed: 8, Push: 3, Jerk: 6}, {Way: to(60, 60), Speed: 1, Push: 3, Jerk: 1},
		{Way: to(-60, -59), Speed: 2, Push: 1, Jerk: 6}, {Way: to(-1, 1), Speed: 8, Push: 1, Jerk: 2}, {Way: to(5, 9), Speed: 3, Push: 3, Jerk: 4},
	}
}

// badMotions lists motions with an error for the limits of the examples.
func badMotions() []api.SafetyMotion {
	return []api.SafetyMotion{
		motion(11, 0, 0), motion(-11, 0, 0), motion(0, 5, 0), motion(0, -5, 0), motion(0, 0, 3), motion(0, 0, -3), motion(11, 5, 3), motion(10, 4, -3),
		motion(math.MaxInt, 0, 0), motion(math.MinInt, 0, 0), motion(0, math.MaxInt, 0), motion(0, math.MinInt, 0), motion(0, 0, math.MaxInt), motion(0, 0, math.MinInt),
	}
}

// someLimits returns limits whose way is not long.
func someLimits(random *rand.Rand) api.SafetyLimits {
	lo := within(random, 40)
	return api.SafetyLimits{
		Way: to(lo, lo+random.IntN(20)), Speed: 1 + random.IntN(api.MaxSafetySpeed), Push: 1 + random.IntN(api.MaxSafetyPush), Jerk: 1 + random.IntN(api.MaxSafetyJerk),
	}
}

// P9.3
func TestCheckLimits(t *testing.T) {
	for _, x := range goodLimits() {
		if e := safety.CheckLimits(x); e != api.OK {
			t.Error(x, e)
		}
	}
	for _, b := range badLimits() {
		if e := safety.CheckLimits(b.x); e != b.want {
			t.Error(b.name, b.x, e, b.want)
		}
	}
}

// P9.3, examples 3 and 4, and edge cases
func TestStopFrom(t *testing.T) {
	still := api.SafetyLimits{Way: to(3, 3), Speed: 4, Push: 3, Jerk: 6}
	quick := api.SafetyLimits{Way: to(-10, 10), Speed: 4, Push: 3, Jerk: 6}
	for _, y := range []struct {
		x    api.SafetyLimits
		s    api.SafetyMotion
		want []int
	}{
		{exampleLimits(), motion(0, 3, 0), ints(-1, -1, -1, 0)},
		{exampleLimits(), motion(8, 3, 0), ints(-1, -2, -1, 0, 1, 0)},
		{exampleLimits(), motion(-8, -3, 0), ints(1, 2, 1, 0, -1, 0)},
		{exampleLimits(), motion(0, 0, 0), nil},
		{exampleLimits(), motion(10, 0, 0), nil},
		{exampleLimits(), motion(-10, 0, 0), nil},
		{exampleLimits(), motion(0, 0, 1), ints(0)},
		{exampleLimits(), motion(10, 0, -1), ints(0)},
		{exampleLimits(), motion(0, 1, 0), ints(-1, 0)},
		{exampleLimits(), motion(0, 1, -2), ints(-1, 0)},
		{exampleLimits(), motion(0, 2, 0), ints(-1, -1, 0)},
		{exampleLimits(), motion(0, 0, 2), ints(1, 0, -1, 0)},
		{still, motion(3, 0, 0), nil},
		{still, motion(3, 0, 3), ints(0)},
		{still, motion(3, 3, 0), ints(-3, 0)},
		{still, motion(3, -2, 0), ints(2, 0)},
		{quick, motion(0, 4, 3), ints(-3, -1, 0)},
		{quick, motion(0, 3, 0), ints(-3, 0)},
		{quick, motion(0, -4, 0), ints(1, 3, 0)},
		{quick, motion(8, 3, 3), ints(-3, 0)},
		{quick, motion(8, 4, 3), ints(-3, -1, 0)},
	} {
		pushes, e := safety.StopFrom(y.x, y.s)
		mustBe(t, y, pushes, e, y.want, api.OK)
	}
	for _, y := range []struct {
		x api.SafetyLimits
		s api.SafetyMotion
	}{
		{exampleLimits(), motion(9, 3, 0)},
		{exampleLimits(), motion(-9, -3, 0)},
		{exampleLimits(), motion(10, 1, 2)},
		{exampleLimits(), motion(10, 0, 2)},
		{still, motion(3, 4, 0)},
		{with(still, func(x *api.SafetyLimits) { x.Jerk = 1 }), motion(3, 0, 2)},
		{with(still, func(x *api.SafetyLimits) { x.Jerk = 2 }), motion(3, 1, 2)},
		{with(still, func(x *api.SafetyLimits) { x.Jerk = 1 }), motion(3, 2, -1)},
	} {
		pushes, e := safety.StopFrom(y.x, y.s)
		mustFail(t, y, pushes, e, api.ErrNone)
		can, e := safety.CanStop(y.x, y.s)
		mustBe(t, y, can, e, false, api.OK)
		next, e := safety.PushesFrom(y.x, y.s)
		mustBe(t, y, next, e, nil, api.OK)
	}
}

// Edge cases: with a way of one position a plate is at rest after each permitted push but for the push itself, so only one whose speed a push can take at once can stop.
func TestOnePosition(t *testing.T) {
	for _, jerk := range []int{1, 2, 6} {
		x := api.SafetyLimits{Way: to(-7, -7), Speed: 8, Push: 3, Jerk: jerk}
		for _, s := range motionsOf(x) {
			can, e := safety.CanStop(x, s)
			want := size(s.Speed) <= 3 && size(-s.Speed-s.Push) <= jerk && size(s.Speed) <= jerk || s.Speed == 0 && s.Push == 0
			mustBe(t, s, can, e, want, api.OK)
		}
	}
}

// P9.3, examples 3 and 4
func TestCheckStop(t *testing.T) {
	for _, y := range []struct {
		name   string
		s      api.SafetyMotion
		pushes []int
		at     int
		want   api.Errno
	}{
		{"example", motion(0, 3, 0), ints(-1, -1, -1, 0), 3, api.OK},
		{"example 4", motion(8, 3, 0), ints(-1, -2, -1, 0, 1, 0), 8, api.OK},
		{"a longer one", motion(0, 3, 0), ints(0, -1, -1, -1, 0, 0, 0), 6, api.OK},
		{"to the end of the way", motion(4, 3, 0), ints(0, -1, -1, -1, 0), 10, api.OK},
		{"to the other end of the way", motion(-4, -3, 0), ints(0, 1, 1, 1, 0), -10, api.OK},
		{"on after a stop", motion(0, 0, 0), ints(1, 0, -1, 0), 2, api.OK},
		{"nothing at rest", motion(-10, 0, 0), nil, -10, api.OK},
		{"empty at rest", motion(10, 0, 0), ints(), 10, api.OK},
		{"as many as may be", motion(4, 0, 0), make([]int, 100), 4, api.OK},
		{"too many", motion(4, 0, 0), make([]int, 101), 0, api.ErrLarge},
		{"too many, and refused", motion(4, 0, 0), slices.Repeat(ints(9), 101), 0, api.ErrLarge},
		{"very many", motion(4, 0, 0), make([]int, 1000000), 0, api.ErrLarge},
		{"as many as may be, the last one refused", motion(4, 0, 0), append(make([]int, 99), 2), 0, api.ErrRefused},
		{"nothing", motion(4, 3, 0), nil, 0, api.ErrOpen},
		{"nothing but the speed", motion(4, 1, 0), nil, 0, api.ErrOpen},
		{"nothing but the push", motion(4, 0, -1), nil, 0, api.ErrOpen},
		{"the last push", motion(0, 3, 0), ints(-1, -1, -1), 0, api.ErrOpen},
		{"the speed", motion(0, 3, 0), ints(-1, -1, 0), 0, api.ErrOpen},
		{"both", motion(0, 3, 0), ints(-1, -1), 0, api.ErrOpen},
		{"jerk", motion(0, 3, 0), ints(-2, -1, 0), 0, api.ErrRefused},
		{"jerk upwards", motion(0, -3, 0), ints(2, 1, 0), 0, api.ErrRefused},
		{"jerk behind", motion(0, 3, 0), ints(-1, -2, 0), 0, api.ErrRefused},
		{"jerk from the last push", motion(0, 1, 1), ints(-1, 0), 0, api.ErrRefused},
		{"push", motion(0, 3, -2), ints(-3), 0, api.ErrRefused},
		{"push upwards", motion(0, -3, 2), ints(3), 0, api.ErrRefused},
		{"speed", motion(0, 4, 0), ints(1, 0), 0, api.ErrRefused},
		{"speed backwards", motion(0, -4, 0), ints(-1), 0, api.ErrRefused},
		{"way", motion(9, 3, 0), ints(-1, -1, -1, 0), 0, api.ErrRefused},
		{"way behind", motion(5, 3, 0), ints(0, -1, -1, -1, 0), 0, api.ErrRefused},
		{"way backwards", motion(-9, -3, 0), ints(1), 0, api.ErrRefused},
		{"refused before it is open", motion(0, 3, 0), ints(2), 0, api.ErrRefused},
		{"the greatest", motion(0, 3, 0), ints(math.MaxInt), 0, api.ErrRefused},
		{"the smallest", motion(0, 3, 0), ints(math.MinInt), 0, api.ErrRefused},
		{"the smallest after 1", motion(0, 3, 1), ints(math.MinInt), 0, api.ErrRefused},
		{"the greatest after -1", motion(0, -3, -1), ints(math.MaxInt), 0, api.ErrRefused},
	} {
		at, e := safety.CheckStop(exampleLimits(), y.s, y.pushes)
		mustBe(t, y.name, at, e, y.at, y.want)
	}
}

// P9.3, edge cases
func TestPushesFrom(t *testing.T) {
	for _, y := range []struct {
		s    api.SafetyMotion
		want []int
	}{
		{motion(0, 0, 0), ints(-1, 0, 1)},
		{motion(0, 0, 2), ints(1, 2)},
		{motion(0, 0, -2), ints(-2, -1)},
		{motion(10, 0, 0), ints(-1, 0)},
		{motion(-10, 0, 0), ints(0, 1)},
		{motion(8, 3, 0), ints(-1)},
		{motion(-8, -3, 0), ints(1)},
		{motion(9, 3, 0), nil},
		{motion(0, 4, 0), ints(-1, 0)},
		{motion(0, -4, 0), ints(0, 1)},
		{motion(0, 3, -1), ints(-2, -1, 0)},
		{motion(10, 1, -1), ints(-2, -1)},
	} {
		pushes, e := safety.PushesFrom(exampleLimits(), y.s)
		mustBe(t, y.s, pushes, e, y.want, api.OK)
		can, e := safety.CanStop(exampleLimits(), y.s)
		mustBe(t, y.s, can, e, y.want != nil, api.OK)
	}
	still := api.SafetyLimits{Way: to(0, 0), Speed: 1, Push: 1, Jerk: 1}
	pushes, e := safety.PushesFrom(still, motion(0, 0, 0))
	mustBe(t, "one position", pushes, e, ints(0), api.OK)
	pushes, e = safety.PushesFrom(still, motion(0, 1, 0))
	mustBe(t, "one position, moving", pushes, e, ints(-1), api.OK)
}

// mustStop compares all that is said of a motion with what is found by hand.
func mustStop(t *testing.T, x api.SafetyLimits, ticks map[api.SafetyMotion]int, s api.SafetyMotion) {
	t.Helper()
	_, wantCan := ticks[s]
	can, e := safety.CanStop(x, s)
	mustBe(t, s, can, e, wantCan, api.OK)
	pushes, e := safety.StopFrom(x, s)
	if wantCan {
		mustBe(t, s, pushes, e, stopByHand(x, ticks, s), api.OK)
	} else {
		mustFail(t, s, pushes, e, api.ErrNone)
	}
	var wantNext []int
	for push := -x.Push; push <= x.Push; push++ {
		next, isPermitted := pushedByHand(x, s, push)
		if _, can := ticks[next]; isPermitted && can {
			wantNext = append(wantNext, push)
		}
	}
	next, e := safety.PushesFrom(x, s)
	mustBe(t, s, next, e, wantNext, api.OK)
}

// P9.3, P9.9, P9.10: by hand
func TestStopsByHand(t *testing.T) {
	random := fixedRandom()
	for range 60 {
		x := someLimits(random)
		ticks := ticksByHand(x)
		all := motionsOf(x)
		for range 60 {
			mustStop(t, x, ticks, all[random.IntN(len(all))])
		}
	}
	for _, x := range []api.SafetyLimits{exampleLimits(), widest(), {Way: to(-60, 60), Speed: 8, Push: 1, Jerk: 1}} {
		ticks := ticksByHand(x)
		all := motionsOf(x)
		for range 60 {
			mustStop(t, x, ticks, all[random.IntN(len(all))])
		}
	}
}

// P9.9: CheckStop accepts StopFrom; after each push of it the motion can stop.
func TestStopsAreStops(t *testing.T) {
	stops := 0
	random := fixedRandom()
	for range 600 {
		x := someLimits(random)
		all := motionsOf(x)
		s := all[random.IntN(len(all))]
		pushes, e := safety.StopFrom(x, s)
		if e != api.OK {
			continue
		}
		stops++
		wantAt, e := safety.CheckStop(x, s, pushes)
		if e != api.OK {
			t.Error(x, s, pushes, e)
		}
		for i := range pushes {
			at, e := safety.CheckStop(x, s, pushes[:i])
			mustFail(t, s, at, e, api.ErrOpen)
		}
		for i, push := range pushes {
			next, e := safety.PushesFrom(x, s)
			if e != api.OK || !slices.Contains(next, push) {
				t.Error(x, s, push, next, e)
			}
			s, _ = pushedByHand(x, s, push)
			can, e := safety.CanStop(x, s)
			mustBe(t, s, can, e, true, api.OK)
			rest, e := safety.StopFrom(x, s)
			mustBe(t, s, rest, e, pushes[i+1:], api.OK)
		}
		if s != motion(wantAt, 0, 0) {
			t.Error("not at rest", x, s, wantAt)
		}
	}
	if stops < 100 {
		t.Error(stops)
	}
}

// P9.10: a motion that can stop and is not at rest has a push; with wider limits it still can stop, in no more ticks.
func TestAlwaysAWayOn(t *testing.T) {
	random := fixedRandom()
	for range 300 {
		x := someLimits(random)
		all := motionsOf(x)
		s := all[random.IntN(len(all))]
		pushes, e := safety.StopFrom(x, s)
		if e != api.OK {
			continue
		}
		next, e := safety.PushesFrom(x, s)
		if e != api.OK || len(next) == 0 {
			t.Error(x, s, next, e)
		}
		for _, wider := range []api.SafetyLimits{
			with(x, func(x *api.SafetyLimits) { x.Way.Lo = max(-60, x.Way.Lo-3) }),
			with(x, func(x *api.SafetyLimits) { x.Way.Hi = min(60, x.Way.Hi+3) }),
			with(x, func(x *api.SafetyLimits) { x.Speed = min(8, x.Speed+1) }),
			with(x, func(x *api.SafetyLimits) { x.Push = min(3, x.Push+1) }),
			with(x, func(x *api.SafetyLimits) { x.Jerk = min(6, x.Jerk+1) }),
			widest(),
		} {
			fewer, e := safety.StopFrom(wider, s)
			if e != api.OK || len(fewer) > len(pushes) {
				t.Error(x, wider, s, pushes, fewer, e)
			}
			at, e := safety.CheckStop(wider, s, pushes)
			if e != api.OK {
				t.Error(x, wider, s, pushes, at, e)
			}
		}
	}
}

// P9.3: the errors of the limits come first, then those of the motion.
func TestErrorsOfStops(t *testing.T) {
	check := func(name any, x api.SafetyLimits, s api.SafetyMotion, want api.Errno) {
		t.Helper()
		pushes, e := safety.StopFrom(x, s)
		mustFail(t, name, pushes, e, want)
		can, e := safety.CanStop(x, s)
		mustFail(t, name, can, e, want)
		next, e := safety.PushesFrom(x, s)
		mustFail(t, name, next, e, want)
		for _, pushes := range [][]int{nil, {0}, {9}, make([]int, 101)} {
			at, e := safety.CheckStop(x, s, pushes)
			mustFail(t, name, at, e, want)
		}
	}
	for _, b := range badLimits() {
		for _, s := range append(badMotions(), motion(0, 0, 0)) {
			check(b.name, b.x, s, b.want)
		}
	}
	for _, s := range badMotions() {
		check(s, exampleLimits(), s, api.ErrRange)
	}
	for _, s := range []api.SafetyMotion{motion(-61, 0, 0), motion(61, 0, 0), motion(0, 9, 0), motion(0, -9, 0), motion(0, 0, 4), motion(0, 0, -4)} {
		check(s, widest(), s, api.ErrRange)
	}
}

// P9.3: motions at the ends of the limits
func TestEndsOfLimits(t *testing.T) {
	for _, s := range []api.SafetyMotion{motion(-60, 8, 3), motion(60, -8, -3), motion(-60, 8, -3), motion(60, -8, 3), motion(-60, 0, 0), motion(60, 0, 0)} {
		can, e := safety.CanStop(widest(), s)
		mustBe(t, s, can, e, true, api.OK)
	}
	for _, s := range []api.SafetyMotion{motion(60, 8, 3), motion(-60, -8, -3), motion(60, 8, -3)} {
		can, e := safety.CanStop(widest(), s)
		mustBe(t, s, can, e, false, api.OK)
	}
}
