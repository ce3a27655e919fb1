package hybrid_test

import (
	"math"
	"math/big"
	"math/rand/v2"
	"reflect"
	"slices"
	"testing"

	"ductility/api"
)

// frac returns a fraction.
func frac(num, den int) api.Frac { return api.Frac{Num: num, Den: den} }

// fracOf returns a fraction.
func fracOf(x *big.Rat) api.Frac { return frac(int(x.Num().Int64()), int(x.Denom().Int64())) }

// ratOf returns a fraction whose denominator is not 0.
func ratOf(x api.Frac) *big.Rat { return big.NewRat(int64(x.Num), int64(x.Den)) }

// wholes returns fractions that are whole numbers.
func wholes(numbers ...int) []api.Frac {
	var l []api.Frac
	for _, n := range numbers {
		l = append(l, frac(n, 1))
	}
	return l
}

// to returns a range.
func to(lo, hi int) api.Range { return api.Range{Lo: lo, Hi: hi} }

// rows returns states.
func rows(l ...[]int) [][]int { return l }

// with returns a copy of a test that is changed.
func with(x api.HybridTest, change func(x *api.HybridTest)) api.HybridTest {
	change(&x)
	return x
}

// exampleTest returns the test of the examples.
func exampleTest() api.HybridTest {
	return api.HybridTest{Mass: 4, Damping: 1, Computed: 2, Shaken: 2, Delay: 1, Bound: 3, Forces: to(0, 8)}
}

// compensating returns the test of the examples, compensating.
func compensating() api.HybridTest {
	return with(exampleTest(), func(x *api.HybridTest) { x.Compensates = true })
}

// followingTest returns that of the example 6, whose next displacement is always the force.
func followingTest(forces api.Range) api.HybridTest {
	return api.HybridTest{Mass: 1, Damping: 1, Computed: 1, Bound: 1, Forces: forces}
}

// messagesOf returns messages, of each its kind, its step, and its tick.
func messagesOf(numbers ...int) []api.HybridMessage {
	var l []api.HybridMessage
	for m := range slices.Chunk(numbers, 3) {
		l = append(l, api.HybridMessage{Kind: m[0], Step: m[1], At: m[2]})
	}
	return l
}

// exchanged returns messages in order that come at ticks.
func exchanged(ticks ...int) []api.HybridMessage {
	var l []api.HybridMessage
	for i, at := range ticks {
		l = append(l, api.HybridMessage{Kind: i % 2, Step: i / 2, At: at})
	}
	return l
}

// exampleMessages returns those of the example 7.
func exampleMessages() []api.HybridMessage { return exchanged(10, 14, 20, 29, 30) }

// clock returns a clock.
func clock(deadline, until int) api.HybridClock {
	return api.HybridClock{Deadline: deadline, Until: until}
}

// chainOf returns a chain, of each node the stiffness below it and the force.
func chainOf(numbers ...int) api.HybridChain {
	var c api.HybridChain
	for node := range slices.Chunk(numbers, 2) {
		c.Stiffness, c.Forces = append(c.Stiffness, node[0]), append(c.Forces, node[1])
	}
	return c
}

// exampleChain returns that of the example 8.
func exampleChain() api.HybridChain { return chainOf(2, 6, 4, 4) }

// halvesOf returns halves.
func halvesOf(lower, upper []api.Frac, force int) api.HybridHalves {
	return api.HybridHalves{Lower: lower, Upper: upper, Force: force}
}

// areSame tells whether values are the same; nil and empty slices are.
func areSame(a, b any) bool { return areAlike(reflect.ValueOf(a), reflect.ValueOf(b)) }

// areAlike tells whether values of one type, without pointers, are the same.
func areAlike(a, b reflect.Value) bool {
	switch a.Kind() {
	case reflect.Slice, reflect.Array:
		if a.Len() != b.Len() {
			return false
		}
		for i := range a.Len() {
			if !areAlike(a.Index(i), b.Index(i)) {
				return false
			}
		}
		return true
	case reflect.Struct:
		for i := range a.NumField() {
			if !areAlike(a.Field(i), b.Field(i)) {
				return false
			}
		}
		return true
	}
	return a.Equal(b)
}

// mustBe reports a value or an error that is not as wanted.
func mustBe[T any](t *testing.T, name any, is T, e api.Errno, want T, wantError api.Errno) {
	t.Helper()
	if !areSame(is, want) || e != wantError {
		t.Errorf("%v: %v, %d, want %v, %d", name, is, e, want, wantError)
	}
}

// mustFail reports an error that is not as wanted, or a value that is something.
func mustFail[T any](t *testing.T, name any, is T, e, want api.Errno) {
	t.Helper()
	var zero T
	mustBe(t, name, is, e, zero, want)
}

// mustStay reports what has changed.
func mustStay(t *testing.T, name string, is, was any) {
	t.Helper()
	if !areSame(is, was) {
		t.Error(name, "changed:", is, was)
	}
}

// badTest is a test with an error.
type badTest struct {
	name string
	x    api.HybridTest
	want api.Errno
}

// badTests lists all errors of tests; most of them have errors that are listed later, too.
func badTests() []badTest {
	l := []badTest{{"nothing", api.HybridTest{}, api.ErrRange}}
	for name, field := range map[string]func(x *api.HybridTest) *int{
		"Mass":     func(x *api.HybridTest) *int { return &x.Mass },
		"Damping":  func(x *api.HybridTest) *int { return &x.Damping },
		"Computed": func(x *api.HybridTest) *int { return &x.Computed },
		"Shaken":   func(x *api.HybridTest) *int { return &x.Shaken },
		"Delay":    func(x *api.HybridTest) *int { return &x.Delay },
		"Bound":    func(x *api.HybridTest) *int { return &x.Bound },
	} {
		most := map[string]int{"Delay": 2, "Bound": 3}[name]
		if most == 0 {
			most = 1000
		}
		bad := []int{-1, most + 1, math.MaxInt, math.MinInt}
		if name == "Mass" {
			bad = append(bad, 0)
		}
		for _, n := range bad {
			x := with(exampleTest(), func(x *api.HybridTest) { *field(x) = n })
			l = append(l, badTest{name, x, api.ErrRange})
			x.Forces = to(9, -9)
			l = append(l, badTest{name + " before the forces", x, api.ErrRange})
		}
	}
	for _, forces := range []api.Range{to(-1001, 0), to(0, 1001), to(1001, 1000), to(-1000, -1001), to(1001, 0), to(math.MinInt, math.MaxInt), to(math.MaxInt, math.MinInt), to(0, math.MaxInt), to(math.MinInt, 0)} {
		l = append(l, badTest{"ends of forces", with(exampleTest(), func(x *api.HybridTest) { x.Forces = forces }), api.ErrRange})
	}
	for _, forces := range []api.Range{to(1, 0), to(1000, -1000), to(-999, -1000)} {
		l = append(l, badTest{"order of forces", with(exampleTest(), func(x *api.HybridTest) { x.Forces = forces }), api.ErrOrder})
	}
	for _, forces := range []api.Range{to(0, 9), to(-1000, 1000), to(-5, 4), to(991, 1000)} {
		l = append(l, badTest{"too many forces", with(exampleTest(), func(x *api.HybridTest) { x.Forces = forces }), api.ErrLarge})
	}
	return l
}

// goodTests lists tests, those at the ends of what is permitted among them.
func goodTests() []api.HybridTest {
	return []api.HybridTest{
		exampleTest(), compensating(), followingTest(to(0, 1)), followingTest(to(0, 2)), {Mass: 1},
		{Mass: 1000, Damping: 1000, Computed: 1000, Shaken: 1000, Delay: 2, Compensates: true, Bound: 3, Forces: to(992, 1000)},
		{Mass: 1, Damping: 1000, Computed: 1000, Shaken: 1000, Delay: 2, Compensates: true, Bound: 3, Forces: to(-1000, -992)},
		{Mass: 7, Damping: 3, Shaken: 4, Delay: 2, Bound: 2, Forces: to(-4, 4)},
		{Mass: 7, Computed: 4, Delay: 1, Compensates: true, Bound: 1, Forces: to(-1, -1)},
	}
}

// badState is a state of the test of the examples with an error.
type badState struct {
	s    []int
	want api.Errno
}

// badStates lists all errors of states of the test of the examples.
func badStates() []badState {
	return []badState{
		{nil, api.ErrShape}, {[]int{}, api.ErrShape}, {[]int{0}, api.ErrShape}, {[]int{0, 0}, api.ErrShape}, {[]int{0, 0, 0, 0}, api.ErrShape},
		{[]int{9, 9}, api.ErrShape}, {[]int{9, 9, 9, 9, 9}, api.ErrShape}, {make([]int, 1000), api.ErrShape},
		{[]int{4, 0, 0}, api.ErrRange}, {[]int{0, -4, 0}, api.ErrRange}, {[]int{0, 0, 4}, api.ErrRange},
		{[]int{math.MaxInt, 0, 0}, api.ErrRange}, {[]int{0, math.MinInt, 0}, api.ErrRange}, {[]int{0, 0, math.MinInt}, api.ErrRange},
	}
}

// badForces is forces of the test of the examples with an error.
type badForces struct {
	name   string
	forces []int
	want   api.Errno
}

// allBadForces lists all errors of forces of the test of the examples.
func allBadForces() []badForces {
	return []badForces{
		{"sixty-one", slices.Repeat([]int{9}, 61), api.ErrLarge},
		{"sixty-one good ones", make([]int, 61), api.ErrLarge},
		{"a force below", []int{-1}, api.ErrRange},
		{"a force above", []int{9}, api.ErrRange},
		{"the last one", append(make([]int, 59), 9), api.ErrRange},
		{"a force after the bound is left", []int{8, 8, 8, 8, 8, 8, 9}, api.ErrRange},
		{"the greatest", []int{0, math.MaxInt}, api.ErrRange},
		{"the smallest", []int{math.MinInt, 0}, api.ErrRange},
	}
}

// badMessages is messages with an error, and what CheckMessages says of them.
type badMessages struct {
	name  string
	l     []api.HybridMessage
	index int
	want  api.Errno
}

// allBadMessages lists all errors of messages; most of them have errors that are listed later, or stand in later messages, too.
func allBadMessages() []badMessages {
	const far = api.MaxTick + 1
	return []badMessages{
		{"sixty-one", slices.Repeat(messagesOf(9, -1, -1), 61), 0, api.ErrLarge},
		{"sixty-one good ones", exchanged(make([]int, 61)...), 0, api.ErrLarge},
		{"kind above", messagesOf(2, -1, -1), 0, api.ErrKind},
		{"kind below", messagesOf(-1, 61, far, 9, 9, 9), 0, api.ErrKind},
		{"kind of the second one", messagesOf(0, 0, 10, 2, -1, 9), 1, api.ErrKind},
		{"the greatest kind", messagesOf(math.MaxInt, 0, 0), 0, api.ErrKind},
		{"the smallest kind", messagesOf(math.MinInt, 0, 0), 0, api.ErrKind},
		{"step below", messagesOf(0, -1, 10), 0, api.ErrRange},
		{"step above", messagesOf(0, 0, 10, 1, 61, 9), 1, api.ErrRange},
		{"the greatest step", messagesOf(0, math.MaxInt, 0), 0, api.ErrRange},
		{"the smallest step", messagesOf(0, math.MinInt, 0), 0, api.ErrRange},
		{"tick below 0", messagesOf(0, 0, -1), 0, api.ErrRange},
		{"tick above", messagesOf(0, 0, 10, 1, 0, far), 1, api.ErrRange},
		{"the greatest tick", messagesOf(1, 0, math.MaxInt), 0, api.ErrRange},
		{"the smallest tick", messagesOf(0, 0, 5, 0, 0, math.MinInt), 1, api.ErrRange},
		{"earlier", messagesOf(0, 0, 10, 1, 0, 9), 1, api.ErrOrder},
		{"earlier, and not in order", messagesOf(0, 0, 10, 0, 0, 9), 1, api.ErrOrder},
		{"the last one earlier", append(exchanged(slices.Repeat([]int{7}, 59)...), messagesOf(1, 29, 6)...), 59, api.ErrOrder},
		{"first a reply", messagesOf(1, 0, 10), 0, api.ErrGap},
		{"first another step", messagesOf(0, 1, 10), 0, api.ErrGap},
		{"first the greatest step", messagesOf(0, 60, 10), 0, api.ErrGap},
		{"two commands", messagesOf(0, 0, 10, 0, 0, 10), 1, api.ErrGap},
		{"no reply", messagesOf(0, 0, 10, 0, 1, 11), 1, api.ErrGap},
		{"the reply of another step", messagesOf(0, 0, 10, 1, 1, 11), 1, api.ErrGap},
		{"two replies", messagesOf(0, 0, 10, 1, 0, 11, 1, 0, 12), 2, api.ErrGap},
		{"the same step again", messagesOf(0, 0, 10, 1, 0, 11, 0, 0, 12), 2, api.ErrGap},
		{"a step left out", messagesOf(0, 0, 10, 1, 0, 11, 0, 2, 12, 9, 9, 9), 2, api.ErrGap},
		{"a reply before its command", messagesOf(0, 0, 10, 1, 0, 11, 1, 1, 12), 2, api.ErrGap},
	}
}

// badClocks lists all clocks that have a number outside of its range.
func badClocks() []api.HybridClock {
	return []api.HybridClock{
		clock(-1, 40), clock(100001, 40), clock(math.MaxInt, 40), clock(math.MinInt, 40),
		clock(5, -1), clock(5, api.MaxTick+1), clock(5, math.MaxInt), clock(5, math.MinInt), clock(-1, -1),
	}
}

// badChain is a chain with an error, and what CheckChain says of it.
type badChain struct {
	name  string
	c     api.HybridChain
	index int
	want  api.Errno
}

// badChains lists all errors of chains; most of them have errors that are listed later, or stand in later nodes, too.
func badChains() []badChain {
	return []badChain{
		{"nothing", api.HybridChain{}, 0, api.ErrShape},
		{"empty", api.HybridChain{Stiffness: []int{}, Forces: []int{}}, 0, api.ErrShape},
		{"no stiffnesses", api.HybridChain{Forces: []int{1}}, 0, api.ErrShape},
		{"no forces", api.HybridChain{Stiffness: []int{1}}, 0, api.ErrShape},
		{"a force less", api.HybridChain{Stiffness: []int{0, 0, 0, 0, 0, 0, 0}, Forces: []int{0, 0, 0, 0, 0, 0}}, 0, api.ErrShape},
		{"a force more", api.HybridChain{Stiffness: []int{1, 2}, Forces: []int{0, 0, 0}}, 0, api.ErrShape},
		{"seven", chainOf(0, 0, 0, 0, 0, 0, 0, 0, 0, 0, 0, 0, 0, 0), 0, api.ErrLarge},
		{"seven good ones", chainOf(1, 1, 1, 1, 1, 1, 1, 1, 1, 1, 1, 1, 1, 1), 0, api.ErrLarge},
		{"stiffness 0", chainOf(0, 0), 0, api.ErrRange},
		{"stiffness below 0", chainOf(1, 0, -1, 0, 0, 0), 1, api.ErrRange},
		{"stiffness above", chainOf(1, 0, 20, 0, 21, 0), 2, api.ErrRange},
		{"the greatest stiffness", chainOf(1, 1, math.MaxInt, 0), 1, api.ErrRange},
		{"the smallest stiffness", chainOf(1, 1, math.MinInt, 0), 1, api.ErrRange},
		{"force above", chainOf(1, 1001), 0, api.ErrRange},
		{"force below", chainOf(1, 0, 1, 0, 1, 0, 1, 0, 1, 0, 1, -1001), 5, api.ErrRange},
		{"force before stiffness", chainOf(1, 0, 1, 1001, 0, 0), 1, api.ErrRange},
		{"the greatest force", chainOf(1, 0, 1, math.MaxInt), 1, api.ErrRange},
		{"the smallest force", chainOf(1, math.MinInt), 0, api.ErrRange},
	}
}

// goodChains lists chains, those at the ends of what is permitted among them.
func goodChains() []api.HybridChain {
	return []api.HybridChain{
		exampleChain(), chainOf(1, 0), chainOf(20, -1000), chainOf(1, 1000, 1, 1000, 1, 1000, 1, 1000, 1, 1000, 1, 1000), chainOf(20, -1000, 19, 1000, 18, -1000, 17, 1000, 16, -1000, 15, 1000),
		chainOf(3, 1, 7, 0, 3, -5), chainOf(2, 0, 3, 0, 5, 0, 7, 1), chainOf(6, 4, 4, -4), largeChain(true),
	}
}

// largeChain returns a chain of which the last displacement alone has a part that is too great, or one of which none has.
func largeChain(isSmaller bool) api.HybridChain {
	c := chainOf(19, 1000, 17, 1000, 13, 1000, 11, 1000, 16, 300, 15, 997)
	if isSmaller {
		c.Forces[5] = 990
	}
	return c
}

// fixedRandom returns the same numbers in each run.
func fixedRandom() *rand.Rand { return rand.New(rand.NewPCG(8, 8)) }

// within returns a number that is not greater in size than another one.
func within(random *rand.Rand, size int) int { return random.IntN(2*size+1) - size }

// someTest returns a test of numbers of many sizes.
func someTest(random *rand.Rand) api.HybridTest {
	size := []int{4, 12, 1000}[random.IntN(3)]
	lo := within(random, []int{2, 9, 991}[random.IntN(3)])
	return api.HybridTest{
		Mass: 1 + random.IntN(size), Damping: random.IntN(size), Computed: random.IntN(size), Shaken: random.IntN(size),
		Delay: random.IntN(3), Compensates: random.IntN(2) == 0, Bound: random.IntN(4), Forces: to(lo, lo+random.IntN(9)),
	}
}

// calmTest returns a test that often holds.
func calmTest(random *rand.Rand) api.HybridTest {
	mass := 1 + random.IntN(12)
	lo := -random.IntN(3)
	return api.HybridTest{
		Mass: mass, Damping: mass/2 + random.IntN(mass+1), Computed: random.IntN(mass + 1), Shaken: random.IntN(mass/2 + 2),
		Delay: random.IntN(3), Compensates: random.IntN(2) == 0, Bound: 1 + random.IntN(3), Forces: to(lo, lo+random.IntN(5)),
	}
}

// someForces returns so many permitted forces.
func someForces(random *rand.Rand, x api.HybridTest, count int) []int {
	var forces []int
	for range count {
		forces = append(forces, x.Forces.Lo+random.IntN(x.Forces.Hi-x.Forces.Lo+1))
	}
	return forces
}

// someState returns a state of a test.
func someState(random *rand.Rand, x api.HybridTest) []int {
	var s []int
	for range x.Delay + 2 {
		s = append(s, within(random, x.Bound))
	}
	return s
}

// someMessages returns messages in order.
func someMessages(random *rand.Rand) []api.HybridMessage {
	var ticks []int
	at := 0
	for range random.IntN(api.MaxHybridMessages + 1) {
		at += random.IntN(1 + random.IntN(12))
		ticks = append(ticks, at)
	}
	return exchanged(ticks...)
}

// someChain returns a chain.
func someChain(random *rand.Rand) api.HybridChain {
	var c api.HybridChain
	size := []int{3, 30, 1000}[random.IntN(3)]
	for range 1 + random.IntN(api.MaxHybridNodes) {
		c.Stiffness = append(c.Stiffness, 1+random.IntN(api.MaxHybridStiffness))
		c.Forces = append(c.Forces, within(random, size))
	}
	return c
}
