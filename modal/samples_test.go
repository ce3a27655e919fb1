package modal_test

import (
	"math"
	"math/big"
	"math/rand/v2"
	"reflect"
	"slices"
	"testing"

	"ductility/api"
)

// frac returns a fraction.
func frac(num, den int) api.Frac { return api.Frac{Num: num, Den: den} }

// lowest returns a quotient in lowest terms.
func lowest(num, den int) api.Frac {
	x := big.NewRat(int64(num), int64(den))
	return frac(int(x.Num().Int64()), int(x.Denom().Int64()))
}

// span returns a span of two quotients.
func span(loNum, loDen, hiNum, hiDen int) api.Span {
	return api.Span{Lo: frac(loNum, loDen), Hi: frac(hiNum, hiDen)}
}

// to returns a range.
func to(lo, hi int) api.Range { return api.Range{Lo: lo, Hi: hi} }

// list returns ranges.
func list(ranges ...api.Range) []api.Range { return ranges }

// frameOf returns a frame; its masses come first, as many springs follow.
func frameOf(numbers ...int) api.ModalFrame {
	storeys := len(numbers) / 2
	return api.ModalFrame{Masses: slices.Clone(numbers[:storeys]), Springs: slices.Clone(numbers[storeys:])}
}

// exampleFrame returns the frame f of the examples.
func exampleFrame() api.ModalFrame { return frameOf(1, 1, 2, 1) }

// stiffFrame returns a frame whose springs are the greatest, and its masses the smallest.
func stiffFrame() api.ModalFrame { return frameOf(1, 1, 1, 1, 20, 20, 20, 20) }

// heavyFrame returns a frame whose masses are the greatest, and its springs the smallest.
func heavyFrame() api.ModalFrame { return frameOf(10, 10, 10, 10, 1, 1, 1, 1) }

// greatFrame returns a frame of which all numbers are the greatest.
func greatFrame() api.ModalFrame { return frameOf(10, 10, 10, 10, 20, 20, 20, 20) }

// wholeFrame returns a frame whose squares are 1 and 6.
func wholeFrame() api.ModalFrame { return frameOf(1, 1, 3, 2) }

// tallFrame returns a frame whose squares are 1, 6, 15 and 28.
func tallFrame() api.ModalFrame { return frameOf(1, 1, 1, 1, 10, 9, 7, 4) }

// someFrames returns frames of all numbers of storeys, those at the ends of what is permitted among them.
func someFrames() []api.ModalFrame {
	all := []api.ModalFrame{
		exampleFrame(), stiffFrame(), heavyFrame(), greatFrame(), wholeFrame(), tallFrame(), frameOf(3, 7), frameOf(10, 1), frameOf(1, 20), frameOf(2, 20),
		frameOf(2, 1, 1, 1), frameOf(1, 10, 1, 10, 20, 1, 20, 1), frameOf(10, 1, 10, 1, 1, 20, 1, 20), frameOf(10, 10, 10, 1, 20, 19, 17, 13),
		// At the square 2 the first determinant is 0, and it belongs to a mode of the first one of these frames.
		frameOf(1, 3, 1, 1, 1, 2), frameOf(1, 3, 1, 1, 1, 1), frameOf(2, 1, 1, 1, 3, 1, 2, 1),
		// At the squares 2 and 7 the second determinant is 0.
		frameOf(1, 1, 1, 1, 2, 4), frameOf(1, 1, 1, 1, 1, 2, 4, 5), frameOf(1, 1, 2, 1, 1, 2, 4, 5),
	}
	random := fixedRandom()
	for range 60 {
		all = append(all, someFrame(random))
	}
	return all
}

// exampleDecay returns the decay of the example 6.
func exampleDecay() api.ModalDecay {
	return api.ModalDecay{Samples: []int{-3, 5, 8, 4, -6, -2, 3, 5, -4, -1, 4}, Off: 2}
}

// decayOf returns a decay.
func decayOf(off int, samples ...int) api.ModalDecay {
	return api.ModalDecay{Samples: samples, Off: off}
}

// exampleAfter returns the ranges after a run of the example 8.
func exampleAfter() api.ModalAfter { return after(10, to(3, 4), to(26, 28)) }

// after returns ranges after a run.
func after(den int, squares ...api.Range) api.ModalAfter {
	return api.ModalAfter{Den: den, Squares: squares}
}

// areSame tells whether values are the same; nil and empty slices are.
func areSame(a, b any) bool { return areAlike(reflect.ValueOf(a), reflect.ValueOf(b)) }

// areAlike tells whether values of one type, without pointers, are the same.
func areAlike(a, b reflect.Value) bool {
	switch a.Kind() {
	case reflect.Slice, reflect.Array:
		if a.Len() != b.Len() {
			return false
		}
		for i := range a.Len() {
			if !areAlike(a.Index(i), b.Index(i)) {
				return false
			}
		}
		return true
	case reflect.Struct:
		for i := range a.NumField() {
			if !areAlike(a.Field(i), b.Field(i)) {
				return false
			}
		}
		return true
	}
	return a.Equal(b)
}

// isNothing tells whether a value is the zero value, or an empty slice.
func isNothing[T any](x T) bool {
	var zero T
	return areSame(x, zero)
}

// mustBe reports a value or an error that is not as wanted.
func mustBe[T any](t *testing.T, name any, is T, e api.Errno, want T, wantError api.Errno) {
	t.Helper()
	if !areSame(is, want) || e != wantError {
		t.Errorf("%v: %v, %d, want %v, %d", name, is, e, want, wantError)
	}
}

// mustFail reports an error that is not as wanted, or a value that is something.
func mustFail[T any](t *testing.T, name any, is T, e, want api.Errno) {
	t.Helper()
	var zero T
	mustBe(t, name, is, e, zero, want)
}

// mustStay reports what has changed.
func mustStay(t *testing.T, name string, is, was any) {
	t.Helper()
	if !areSame(is, was) {
		t.Error(name, "changed:", is, was)
	}
}

// badFrame is a frame with an error, and what CheckFrame says of it.
type badFrame struct {
	name  string
	f     api.ModalFrame
	index int
	want  api.Errno
}

// badFrames lists all errors of frames; most of them have errors that are listed later, or stand in later storeys, too.
func badFrames() []badFrame {
	return []badFrame{
		{"nothing", api.ModalFrame{}, 0, api.ErrShape},
		{"empty", api.ModalFrame{Masses: []int{}, Springs: []int{}}, 0, api.ErrShape},
		{"no masses", api.ModalFrame{Springs: []int{1}}, 0, api.ErrShape},
		{"no springs", api.ModalFrame{Masses: []int{1}}, 0, api.ErrShape},
		{"too few springs", api.ModalFrame{Masses: []int{0, 0}, Springs: []int{0}}, 0, api.ErrShape},
		{"too many springs", api.ModalFrame{Masses: []int{1}, Springs: []int{1, 1}}, 0, api.ErrShape},
		{"five masses, four springs", api.ModalFrame{Masses: make([]int, 5), Springs: make([]int, 4)}, 0, api.ErrShape},
		{"four masses, five springs", api.ModalFrame{Masses: make([]int, 4), Springs: make([]int, 5)}, 0, api.ErrShape},
		{"five storeys", frameOf(0, 1, 1, 1, 1, 0, 1, 1, 1, 1), 0, api.ErrLarge},
		{"five good storeys", frameOf(1, 1, 1, 1, 1, 1, 1, 1, 1, 1), 0, api.ErrLarge},
		{"many storeys", api.ModalFrame{Masses: make([]int, 99), Springs: make([]int, 99)}, 0, api.ErrLarge},
		{"no mass", frameOf(0, 1), 0, api.ErrRange},
		{"mass below 0", frameOf(1, -1, 0, 1, 1, 1), 1, api.ErrRange},
		{"mass above", frameOf(1, 1, 11, 1, 1, 1), 2, api.ErrRange},
		{"the greatest mass", frameOf(1, 1, 1, math.MaxInt, 1, 1, 1, 1), 3, api.ErrRange},
		{"the smallest mass", frameOf(math.MinInt, 1), 0, api.ErrRange},
		{"no spring", frameOf(1, 0), 0, api.ErrRange},
		{"spring below 0", frameOf(1, 1, 1, -1), 1, api.ErrRange},
		{"spring above", frameOf(1, 1, 1, 1, 20, 20, 20, 21), 3, api.ErrRange},
		{"the greatest spring", frameOf(1, 1, 0, 1, math.MaxInt, 1), 1, api.ErrRange},
		{"the smallest spring", frameOf(1, 1, 0, 1, 1, math.MinInt), 2, api.ErrRange},
		{"a spring before a mass", frameOf(1, 0, 0, 1), 0, api.ErrRange},
		{"a mass before a spring", frameOf(0, 1, 1, 0), 0, api.ErrRange},
	}
}

// badSquare is a square with an error.
type badSquare struct {
	square api.Frac
	want   api.Errno
}

// badSquares lists all errors of squares; most of them have errors that are listed later, too.
func badSquares() []badSquare {
	return []badSquare{
		{api.Frac{}, api.ErrForm}, {frac(1, 0), api.ErrForm}, {frac(101, 0), api.ErrForm}, {frac(1, -1), api.ErrForm},
		{frac(-1, -2), api.ErrForm}, {frac(0, 2), api.ErrForm}, {frac(2, 4), api.ErrForm}, {frac(-3, 3), api.ErrForm},
		{frac(202, 2), api.ErrForm}, {frac(2, 202), api.ErrForm}, {frac(0, -1), api.ErrForm}, {frac(0, 101), api.ErrForm},
		{frac(1, math.MinInt), api.ErrForm}, {frac(math.MinInt, math.MinInt), api.ErrForm}, {frac(math.MinInt, -1), api.ErrForm},
		{frac(math.MinInt, 2), api.ErrForm}, {frac(math.MaxInt, math.MaxInt), api.ErrForm},
		{frac(101, 1), api.ErrRange}, {frac(-101, 1), api.ErrRange}, {frac(1, 101), api.ErrRange}, {frac(-1, 101), api.ErrRange},
		{frac(101, 100), api.ErrRange}, {frac(100, 101), api.ErrRange},
		{frac(math.MaxInt, 1), api.ErrRange}, {frac(math.MinInt, 1), api.ErrRange}, {frac(1, math.MaxInt), api.ErrRange},
	}
}

// goodSquares lists squares, those at the ends of what is permitted among them.
func goodSquares() []api.Frac {
	all := []api.Frac{
		frac(0, 1), frac(1, 1), frac(2, 1), frac(4, 1), frac(1, 2), frac(100, 1), frac(-100, 1), frac(1, 100), frac(-1, 100),
		frac(100, 99), frac(99, 100), frac(-99, 100), frac(97, 1), frac(80, 1), frac(79, 1), frac(3, 1), frac(5, 1), frac(6, 1),
		frac(15, 1), frac(20, 1), frac(28, 1), frac(60, 1), frac(10, 1), frac(1, 10), frac(2, 5), frac(3, 7), frac(22, 1), frac(21, 10),
	}
	random := fixedRandom()
	for range 30 {
		all = append(all, lowest(within(random, 100), 1+random.IntN(100)))
	}
	return all
}

// badDecay is a decay with an error.
type badDecay struct {
	name string
	x    api.ModalDecay
	want api.Errno
}

// badDecays lists all errors of decays; most of them have errors that are listed later, too.
func badDecays() []badDecay {
	const far = api.MaxModalSample + 1
	return []badDecay{
		{"nothing", api.ModalDecay{}, api.ErrShape},
		{"empty", decayOf(-1, []int{}...), api.ErrShape},
		{"no samples", decayOf(1), api.ErrShape},
		{"too long", decayOf(-1, slices.Repeat([]int{far}, 61)...), api.ErrLarge},
		{"too long, but good", decayOf(0, make([]int, 61)...), api.ErrLarge},
		{"sample above", decayOf(-1, 0, far), api.ErrRange},
		{"sample below", decayOf(1, -far), api.ErrRange},
		{"the last sample", decayOf(1, append(make([]int, 59), far)...), api.ErrRange},
		{"the greatest sample", decayOf(1, math.MaxInt, 0), api.ErrRange},
		{"the smallest sample", decayOf(1, 0, 0, math.MinInt), api.ErrRange},
		{"Off below 0", decayOf(-1, 0), api.ErrRange},
		{"Off above", decayOf(far, 0), api.ErrRange},
		{"the greatest Off", decayOf(math.MaxInt, 0), api.ErrRange},
		{"the smallest Off", decayOf(math.MinInt, 0), api.ErrRange},
	}
}

// badRanges is ranges with an error.
type badRanges struct {
	name string
	l    []api.Range
	want api.Errno
}

// allBadRanges lists all errors of ranges; most of them have errors that are listed later, or stand in later ranges, too.
func allBadRanges() []badRanges {
	const far = api.MaxModalEnd + 1
	return []badRanges{
		{"nothing", nil, api.ErrShape},
		{"empty", list(), api.ErrShape},
		{"thirteen", slices.Repeat(list(to(far, -far)), 13), api.ErrLarge},
		{"thirteen good ones", slices.Repeat(list(to(1, 2)), 13), api.ErrLarge},
		{"Lo above", list(to(far, far), to(1, 0)), api.ErrRange},
		{"Lo above, in disorder", list(to(0, 0), to(far, 0)), api.ErrRange},
		{"Lo below", list(to(0, 1), to(-far, 0)), api.ErrRange},
		{"Hi above", list(to(0, far)), api.ErrRange},
		{"Hi below, in disorder", list(to(0, -far)), api.ErrRange},
		{"the twelfth", append(slices.Repeat(list(to(1, 2)), 11), to(0, far)), api.ErrRange},
		{"the greatest", list(to(0, math.MaxInt)), api.ErrRange},
		{"the smallest", list(to(math.MinInt, 0)), api.ErrRange},
		{"disorder", list(to(1, 0)), api.ErrOrder},
		{"disorder first", list(to(0, 0), to(5, 4), to(far, far)), api.ErrOrder},
		{"the greatest disorder", list(to(far-1, 1-far)), api.ErrOrder},
	}
}

// badAfter is ranges after a run of the frame f with an error.
type badAfter struct {
	name string
	x    api.ModalAfter
	want api.Errno
}

// badAfters lists all errors of ranges after a run; most of them have errors that are listed later, too.
func badAfters() []badAfter {
	const far = api.MaxModalEnd + 1
	return []badAfter{
		{"nothing", api.ModalAfter{}, api.ErrRange},
		{"Den 0", after(0, to(0, 1), to(1, 0)), api.ErrRange},
		{"Den below 0", after(-1, to(1, 0)), api.ErrRange},
		{"Den above", after(51), api.ErrRange},
		{"the greatest Den", after(math.MaxInt), api.ErrRange},
		{"the smallest Den", after(math.MinInt), api.ErrRange},
		{"no ranges", after(10), api.ErrShape},
		{"too few", after(10, to(1, 0)), api.ErrShape},
		{"too many", after(10, to(-1, 0), to(1, 0), to(1, 1)), api.ErrShape},
		{"Lo below 0", after(10, to(-1, 0), to(1, 0)), api.ErrRange},
		{"Lo above", after(10, to(0, 0), to(far, far)), api.ErrRange},
		{"Lo above, in disorder", after(10, to(far, 0), to(0, 0)), api.ErrRange},
		{"Hi above", after(10, to(0, far), to(1, 0)), api.ErrRange},
		{"Hi below 0, in disorder", after(10, to(0, 9), to(0, -1)), api.ErrRange},
		{"the greatest", after(10, to(0, math.MaxInt), to(0, 0)), api.ErrRange},
		{"the smallest", after(10, to(0, 1), to(math.MinInt, 0)), api.ErrRange},
		{"disorder", after(10, to(1, 0), to(far, far)), api.ErrOrder},
		{"disorder in the last one", after(10, to(0, far-1), to(far-1, 0)), api.ErrOrder},
	}
}

// fixedRandom returns the same numbers in each run.
func fixedRandom() *rand.Rand { return rand.New(rand.NewPCG(6, 6)) }

// within returns a number that is not greater in size than another one.
func within(random *rand.Rand, size int) int { return random.IntN(2*size+1) - size }

// someFrame returns a frame.
func someFrame(random *rand.Rand) api.ModalFrame {
	var f api.ModalFrame
	for range 1 + random.IntN(api.MaxModalStoreys) {
		f.Masses = append(f.Masses, 1+random.IntN(api.MaxModalMass))
		f.Springs = append(f.Springs, 1+random.IntN(api.MaxModalSpring))
	}
	return f
}

// someDecay returns a decay whose samples go up and down, with an Off of up to half of the greatest one.
func someDecay(random *rand.Rand) api.ModalDecay {
	size := 1 + random.IntN(30)
	x := api.ModalDecay{Off: random.IntN(1 + size/2)}
	for range 1 + random.IntN(api.MaxModalSamples) {
		x.Samples = append(x.Samples, within(random, size))
	}
	return x
}

// someRanges returns so many ranges from 0 to 40.
func someRanges(random *rand.Rand, count int) []api.Range {
	var l []api.Range
	for range count {
		lo := random.IntN(30)
		l = append(l, to(lo, lo+random.IntN(11)))
	}
	return l
}
