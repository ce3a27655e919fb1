package model_test

import (
	"math"
	"math/rand/v2"
	"reflect"
	"slices"
	"testing"

	"ductility/api"
)

// frac returns a fraction.
func frac(num, den int) api.Frac { return api.Frac{Num: num, Den: den} }

// exampleScales returns the scales s of the examples.
func exampleScales() [3]api.Frac { return [3]api.Frac{frac(1, 4), frac(1, 2), frac(1, 16)} }

// greatScales returns scales whose factors become greater than any int.
func greatScales() [3]api.Frac { return [3]api.Frac{frac(97, 100), frac(100, 1), frac(1, 100)} }

// ductile returns an element that slips.
func ductile(stiffness, yield int) api.ModelElement {
	return api.ModelElement{Stiffness: stiffness, Yield: yield}
}

// brittle returns an element that breaks.
func brittle(stiffness, yield int) api.ModelElement {
	return api.ModelElement{Stiffness: stiffness, Yield: yield, Brittle: true}
}

// springOf returns a spring of elements.
func springOf(list ...api.ModelElement) []api.ModelElement { return list }

// exampleSpring returns the spring p of the examples.
func exampleSpring() []api.ModelElement { return springOf(ductile(10, 2), brittle(5, 4)) }

// slipped returns what an element is like that is not broken.
func slipped(slip int) api.ModelSlip { return api.ModelSlip{Slip: slip} }

// broken returns what a broken element is like.
func broken() api.ModelSlip { return api.ModelSlip{Broken: true} }

// holdOf returns a hold.
func holdOf(at int, slips ...api.ModelSlip) api.ModelHold { return api.ModelHold{At: at, Slips: slips} }

// floorOf returns a floor.
func floorOf(mass, limit int, spring ...api.ModelElement) api.ModelFloor {
	return api.ModelFloor{Mass: mass, Limit: limit, Spring: spring}
}

// frameOf returns a frame of floors.
func frameOf(floors ...api.ModelFloor) api.ModelFrame { return api.ModelFrame{Floors: floors} }

// exampleFrame returns the frame f of the examples.
func exampleFrame() api.ModelFrame {
	return frameOf(floorOf(2, 20, ductile(4, 10)), floorOf(1, 20, ductile(2, 10)))
}

// exampleState returns the state of the frame f after the second step of the example 6.
func exampleState() api.ModelState {
	return api.ModelState{Now: []int{0, 6}, Before: []int{3, 3}, Holds: []api.ModelHold{holdOf(0, slipped(0)), holdOf(6, slipped(0))}}
}

// greatFrame returns a frame of which all numbers are the greatest.
func greatFrame() api.ModelFrame {
	strong := ductile(api.MaxModelStiffness, api.MaxModelStiffness)
	floor := floorOf(api.MaxModelMass, api.MaxModelLimit, strong, strong, brittle(api.MaxModelStiffness, api.MaxModelStiffness), strong)
	return frameOf(slices.Repeat([]api.ModelFloor{floor}, api.MaxModelFloors)...)
}

// smallFrame returns a frame of which all numbers are the smallest.
func smallFrame() api.ModelFrame { return frameOf(floorOf(1, 1, ductile(1, 1))) }

// areSame tells whether values are the same; nil and empty slices are.
func areSame(a, b any) bool { return areAlike(reflect.ValueOf(a), reflect.ValueOf(b)) }

// areAlike tells whether values of one type, without pointers, are the same.
func areAlike(a, b reflect.Value) bool {
	switch a.Kind() {
	case reflect.Slice, reflect.Array:
		if a.Len() != b.Len() {
			return false
		}
		for i := range a.Len() {
			if !areAlike(a.Index(i), b.Index(i)) {
				return false
			}
		}
		return true
	case reflect.Struct:
		for i := range a.NumField() {
			if !areAlike(a.Field(i), b.Field(i)) {
				return false
			}
		}
		return true
	}
	return a.Equal(b)
}

// isNothing tells whether a value is the zero value, or an empty slice.
func isNothing[T any](x T) bool {
	var zero T
	return areSame(x, zero)
}

// mustStay reports what has changed.
func mustStay(t *testing.T, name string, is, was any) {
	t.Helper()
	if !areSame(is, was) {
		t.Error(name, "changed:", is, was)
	}
}

// badScales is scales with an error, and what CheckScales says of them.
type badScales struct {
	name  string
	s     [3]api.Frac
	index int
	want  api.Errno
}

// allBadScales lists all errors of scales; most of them have errors that are listed later, or stand in later scales, too.
func allBadScales() []badScales {
	var all []badScales
	add := func(name string, index int, want api.Errno, scale api.Frac) {
		s := exampleScales()
		s[index] = scale
		for later := index + 1; later < len(s); later++ {
			s[later] = frac(0, 0)
		}
		all = append(all, badScales{name, s, index, want})
	}
	add("nothing", 0, api.ErrForm, api.Frac{})
	add("Den 0", 1, api.ErrForm, frac(1, 0))
	add("Den below 0", 2, api.ErrForm, frac(-1, -2))
	add("not in lowest terms", 0, api.ErrForm, frac(2, 4))
	add("not in lowest terms, and too great", 1, api.ErrForm, frac(202, 2))
	add("zero not in lowest terms", 2, api.ErrForm, frac(0, 2))
	add("the smallest Den", 0, api.ErrForm, frac(1, math.MinInt))
	add("both the smallest", 0, api.ErrForm, frac(math.MinInt, math.MinInt))
	add("zero", 0, api.ErrRange, frac(0, 1))
	add("below 0", 1, api.ErrRange, frac(-1, 2))
	add("Num above", 2, api.ErrRange, frac(101, 1))
	add("Den above", 0, api.ErrRange, frac(1, 101))
	add("the greatest", 1, api.ErrRange, frac(math.MaxInt, 2))
	add("the smallest", 2, api.ErrRange, frac(math.MinInt, 1))
	add("the greatest Den", 2, api.ErrRange, frac(1, math.MaxInt))
	return all
}

// badQuantities lists quantities with an error.
func badQuantities() [][3]int {
	return [][3]int{{5, 0, 0}, {-5, 0, 0}, {0, 5, 0}, {0, -5, 0}, {0, 0, 5}, {0, 0, -5}, {math.MaxInt, 0, 0}, {0, 0, math.MinInt}}
}

// badSpring is a spring with an error, and what CheckSpring says of it.
type badSpring struct {
	name  string
	l     []api.ModelElement
	index int
	want  api.Errno
}

// badSprings lists all errors of springs.
func badSprings() []badSpring {
	good, bad := ductile(1, 1000), ductile(0, 0)
	return []badSpring{
		{"nothing", nil, 0, api.ErrShape},
		{"empty", springOf(), 0, api.ErrShape},
		{"five", springOf(bad, bad, bad, bad, bad), 0, api.ErrLarge},
		{"zero", springOf(bad, bad), 0, api.ErrRange},
		{"no stiffness", springOf(good, ductile(0, 1)), 1, api.ErrRange},
		{"stiffness below 0", springOf(good, ductile(-1, 1), bad), 1, api.ErrRange},
		{"stiffness above", springOf(brittle(1001, 1)), 0, api.ErrRange},
		{"no yield", springOf(good, good, good, brittle(1, 0)), 3, api.ErrRange},
		{"yield below 0", springOf(good, good, ductile(1, -1)), 2, api.ErrRange},
		{"yield above", springOf(ductile(1, 1001)), 0, api.ErrRange},
		{"the greatest", springOf(good, ductile(math.MaxInt, 1)), 1, api.ErrRange},
		{"the smallest", springOf(ductile(1, math.MinInt)), 0, api.ErrRange},
	}
}

// goodSprings lists springs whose numbers lie at the ends of what is permitted.
func goodSprings() [][]api.ModelElement {
	return [][]api.ModelElement{
		exampleSpring(), springOf(ductile(1, 1)), springOf(brittle(1000, 1)), springOf(brittle(1, 1000)),
		greatFrame().Floors[0].Spring,
	}
}

// badHold is a hold with an error, and what CheckHold says of it.
type badHold struct {
	name  string
	h     api.ModelHold
	index int
	want  api.Errno
}

// badHolds lists all errors of holds of the spring p; most of them have errors that are listed later, too.
func badHolds() []badHold {
	const far = api.MaxModelPlace + 1
	return []badHold{
		{"at above", holdOf(far), 0, api.ErrRange},
		{"at below", holdOf(-far, slipped(far), slipped(0)), 0, api.ErrRange},
		{"the greatest", holdOf(math.MaxInt), 0, api.ErrRange},
		{"the smallest", holdOf(math.MinInt), 0, api.ErrRange},
		{"no slips", holdOf(0), 0, api.ErrShape},
		{"too few slips", holdOf(0, slipped(far)), 0, api.ErrShape},
		{"too many slips", holdOf(0, slipped(far), slipped(0), slipped(0)), 0, api.ErrShape},
		{"slip above", holdOf(0, api.ModelSlip{Slip: far, Broken: true}, slipped(1)), 0, api.ErrRange},
		{"slip below", holdOf(0, slipped(-far), slipped(far)), 0, api.ErrRange},
		{"the greatest slip", holdOf(0, slipped(0), slipped(math.MaxInt)), 1, api.ErrRange},
		{"the smallest slip", holdOf(0, slipped(math.MinInt), slipped(0)), 0, api.ErrRange},
		{"a brittle one slipped too far", holdOf(0, slipped(0), slipped(far)), 1, api.ErrRange},
		{"broken, but not brittle", holdOf(9, broken(), broken()), 0, api.ErrForm},
		{"broken, not brittle, slipped", holdOf(0, api.ModelSlip{Slip: 1, Broken: true}, slipped(far)), 0, api.ErrForm},
		{"broken and slipped", holdOf(0, slipped(0), api.ModelSlip{Slip: 1, Broken: true}), 1, api.ErrForm},
		{"brittle and slipped", holdOf(0, slipped(0), slipped(-1)), 1, api.ErrForm},
		{"brittle, slipped and stretched", holdOf(9, slipped(9), slipped(1)), 1, api.ErrForm},
		{"stretched above", holdOf(3, slipped(0), slipped(far)), 0, api.ErrBreak},
		{"stretched below", holdOf(-3, slipped(0), slipped(1)), 0, api.ErrBreak},
		{"stretched by its slip", holdOf(0, slipped(-10000), broken()), 0, api.ErrBreak},
		{"brittle, stretched above", holdOf(5, slipped(4), slipped(0)), 1, api.ErrBreak},
		{"brittle, stretched below", holdOf(-5, slipped(-3), slipped(0)), 1, api.ErrBreak},
	}
}

// goodHolds lists holds of the spring p that lie at the ends of what is permitted.
func goodHolds() []api.ModelHold {
	return []api.ModelHold{
		holdOf(0, slipped(0), slipped(0)), holdOf(2, slipped(0), slipped(0)), holdOf(4, slipped(2), slipped(0)),
		holdOf(-4, slipped(-6), slipped(0)), holdOf(0, slipped(-2), broken()), holdOf(10000, slipped(10000), broken()),
		holdOf(-10000, slipped(-9998), broken()), holdOf(9998, slipped(10000), broken()),
	}
}

// badPlaces lists positions with an error.
func badPlaces() []int {
	return []int{api.MaxModelPlace + 1, -api.MaxModelPlace - 1, math.MaxInt, math.MinInt}
}

// badFrame is a frame with an error, and what CheckFrame says of it.
type badFrame struct {
	name  string
	f     api.ModelFrame
	index int
	want  api.Errno
}

// badFrames lists all errors of frames; most of them have errors that are listed later, or stand in later floors, too.
func badFrames() []badFrame {
	good, bad := floorOf(2, 20, ductile(4, 10)), floorOf(0, 0)
	all := []badFrame{
		{"nothing", api.ModelFrame{}, 0, api.ErrShape},
		{"no floors", frameOf([]api.ModelFloor{}...), 0, api.ErrShape},
		{"six floors", frameOf(bad, bad, bad, bad, bad, bad), 0, api.ErrLarge},
		{"all wrong", frameOf(bad, bad), 0, api.ErrRange},
		{"no mass", frameOf(good, floorOf(0, 20), bad), 1, api.ErrRange},
		{"mass below 0", frameOf(floorOf(-1, 20), bad), 0, api.ErrRange},
		{"mass above", frameOf(good, good, floorOf(10001, 20, ductile(1, 1))), 2, api.ErrRange},
		{"the greatest mass", frameOf(floorOf(math.MaxInt, 20, ductile(1, 1))), 0, api.ErrRange},
		{"no limit", frameOf(floorOf(1, 0), bad), 0, api.ErrRange},
		{"limit below 0", frameOf(good, good, good, good, floorOf(1, -1, ductile(1, 1))), 4, api.ErrRange},
		{"limit above", frameOf(good, floorOf(1, 1001, ductile(1, 1))), 1, api.ErrRange},
		{"the smallest limit", frameOf(floorOf(1, math.MinInt)), 0, api.ErrRange},
	}
	for _, x := range badSprings() {
		all = append(all, badFrame{"its spring: " + x.name, frameOf(good, floorOf(1, 1, x.l...), bad), 1, x.want})
	}
	return all
}

// badState is a state with an error, and what CheckState says of it.
type badState struct {
	name  string
	s     api.ModelState
	index int
	want  api.Errno
}

// badStates lists all errors of states of the frame f.
func badStates() []badState {
	var all []badState
	add := func(name string, index int, want api.Errno, change func(s *api.ModelState)) {
		s := exampleState()
		change(&s)
		all = append(all, badState{name, s, index, want})
	}
	const far = api.MaxModelPlace + 1
	add("nothing", 0, api.ErrShape, func(s *api.ModelState) { *s = api.ModelState{} })
	add("too few now", 0, api.ErrShape, func(s *api.ModelState) { s.Now = []int{far} })
	add("too many now", 0, api.ErrShape, func(s *api.ModelState) { s.Now = append(s.Now, far); s.Before[0] = far })
	add("too few before", 0, api.ErrShape, func(s *api.ModelState) { s.Before = nil })
	add("too many before", 0, api.ErrShape, func(s *api.ModelState) { s.Before = append(s.Before, 0) })
	add("too few holds", 0, api.ErrShape, func(s *api.ModelState) { s.Holds = s.Holds[:1]; s.Now[0] = far })
	add("too many holds", 0, api.ErrShape, func(s *api.ModelState) { s.Holds = append(s.Holds, holdOf(0)) })
	add("now above", 0, api.ErrRange, func(s *api.ModelState) { s.Now[0] = far; s.Holds[0] = holdOf(0) })
	add("now below", 1, api.ErrRange, func(s *api.ModelState) { s.Now[1] = -far; s.Holds[1] = holdOf(0) })
	add("the smallest now", 1, api.ErrRange, func(s *api.ModelState) { s.Now[1] = math.MinInt })
	add("before above", 1, api.ErrRange, func(s *api.ModelState) { s.Before[1] = far; s.Holds[1] = holdOf(far) })
	add("before below", 0, api.ErrRange, func(s *api.ModelState) { s.Before[0] = -far; s.Holds = make([]api.ModelHold, 2) })
	add("the greatest before", 1, api.ErrRange, func(s *api.ModelState) { s.Before[1] = math.MaxInt })
	add("hold too far", 0, api.ErrRange, func(s *api.ModelState) { s.Holds[0] = holdOf(far); s.Now[1] = far })
	add("hold without slips", 1, api.ErrShape, func(s *api.ModelState) { s.Holds[1] = holdOf(5) })
	add("hold slipped too far", 0, api.ErrRange, func(s *api.ModelState) { s.Holds[0] = holdOf(1, slipped(-far)) })
	add("hold broken, not brittle", 1, api.ErrForm, func(s *api.ModelState) { s.Holds[1] = holdOf(1, broken()) })
	add("hold stretched", 1, api.ErrBreak, func(s *api.ModelState) { s.Holds[1] = holdOf(11, slipped(0)) })
	add("hold elsewhere", 0, api.ErrClash, func(s *api.ModelState) { s.Holds[0] = holdOf(1, slipped(0)); s.Now[1] = far })
	add("hold at the displacement", 1, api.ErrClash, func(s *api.ModelState) {
		s.Now = []int{3, 6}
		s.Holds[0] = holdOf(3, slipped(0))
	})
	add("elsewhere, drift above", 1, api.ErrClash, func(s *api.ModelState) { s.Now[1] = 21; s.Holds[1] = holdOf(20, slipped(20)) })
	add("drift above", 1, api.ErrBreak, func(s *api.ModelState) { s.Now[1] = 21; s.Holds[1] = holdOf(21, slipped(20)) })
	add("drift below", 0, api.ErrBreak, func(s *api.ModelState) { s.Now[0] = -21; s.Holds[0] = holdOf(-21, slipped(-20)) })
	return all
}

// badGrounds lists accelerations with an error.
func badGrounds() []int {
	return []int{api.MaxModelGround + 1, -api.MaxModelGround - 1, math.MaxInt, math.MinInt}
}

// badMotion is a motion with an error.
type badMotion struct {
	name   string
	motion []int
	want   api.Errno
}

// badMotions lists all errors of motions.
func badMotions() []badMotion {
	all := []badMotion{{"too long", slices.Repeat([]int{101}, 61), api.ErrLarge}}
	for _, ground := range badGrounds() {
		all = append(all, badMotion{"the last one", []int{0, 100, -100, ground}, api.ErrRange})
	}
	return append(all, badMotion{"the sixtieth", append(make([]int, 59), 101), api.ErrRange})
}

// fixedRandom returns the same numbers in each run.
func fixedRandom() *rand.Rand { return rand.New(rand.NewPCG(5, 5)) }

// within returns a number that is not greater in size than another one.
func within(random *rand.Rand, size int) int { return random.IntN(2*size+1) - size }

// divisorOf returns the greatest number that divides both of two numbers.
func divisorOf(a, b int) int {
	for b != 0 {
		a, b = b, a%b
	}
	return a
}

// someScales returns scales with parts of at most so great a size.
func someScales(random *rand.Rand, size int) [3]api.Frac {
	var s [3]api.Frac
	for i := range s {
		num, den := 1+random.IntN(size), 1+random.IntN(size)
		divisor := divisorOf(num, den)
		s[i] = frac(num/divisor, den/divisor)
	}
	return s
}

// someQuantity returns a quantity with exponents of at most so great a size.
func someQuantity(random *rand.Rand, size int) [3]int {
	return [3]int{within(random, size), within(random, size), within(random, size)}
}

// someSpring returns a spring whose yields are not greater than a number.
func someSpring(random *rand.Rand, yield int) []api.ModelElement {
	var l []api.ModelElement
	for range 1 + random.IntN(api.MaxModelElements) {
		l = append(l, api.ModelElement{Stiffness: 1 + random.IntN(30), Yield: 1 + random.IntN(yield), Brittle: random.IntN(3) == 0})
	}
	return l
}

// someFrame returns a frame of which storeys often yield, and sometimes collapse.
func someFrame(random *rand.Rand) api.ModelFrame {
	var f api.ModelFrame
	for range 1 + random.IntN(api.MaxModelFloors) {
		f.Floors = append(f.Floors, floorOf(20+random.IntN(80), 40+random.IntN(200), someSpring(random, 20)...))
	}
	return f
}

// someMotion returns a motion.
func someMotion(random *rand.Rand) []int {
	size := 1 + random.IntN(8)
	motion := make([]int, random.IntN(api.MaxModelSteps+1))
	for i := range motion {
		motion[i] = within(random, size)
	}
	return motion
}
