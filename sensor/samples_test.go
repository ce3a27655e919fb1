package sensor_test

import (
	"math"
	"math/big"
	"math/rand/v2"
	"reflect"
	"slices"
	"testing"

	"ductility/api"
)

// frac returns a fraction.
func frac(num, den int) api.Frac { return api.Frac{Num: num, Den: den} }

// lowest returns a quotient in lowest terms.
func lowest(num, den int) api.Frac { return fracOf(big.NewRat(int64(num), int64(den))) }

// fracOf returns a fraction.
func fracOf(x *big.Rat) api.Frac { return frac(int(x.Num().Int64()), int(x.Denom().Int64())) }

// to returns a range.
func to(lo, hi int) api.Range { return api.Range{Lo: lo, Hi: hi} }

// list returns ranges.
func list(ranges ...api.Range) []api.Range { return ranges }

// line returns a line.
func line(gain, offset, den int) api.SensorLine {
	return api.SensorLine{Gain: gain, Offset: offset, Den: den}
}

// values returns values.
func values(den int, parts ...int) api.SensorValues { return api.SensorValues{Den: den, Parts: parts} }

// pairsOf returns pairs, of each the known value first.
func pairsOf(numbers ...int) []api.SensorPair {
	var l []api.SensorPair
	for pair := range slices.Chunk(numbers, 2) {
		l = append(l, api.SensorPair{Known: pair[0], Raw: pair[1]})
	}
	return l
}

// rows returns channels, signals, watchers, or rows of an image.
func rows(l ...[]int) [][]int { return l }

// truth returns a truth.
func truth(off int, signals ...[]int) api.SensorTruth {
	return api.SensorTruth{Signals: signals, Off: off}
}

// An option is what one channel may have: a source, and whether it is reversed.
type option struct {
	source     int
	isReversed bool
}

// straight returns the option of a channel that is not reversed, or loose (-1).
func straight(source int) option { return option{source: source} }

// reverse returns the option of a channel that is reversed.
func reverse(source int) option { return option{source: source, isReversed: true} }

// explanation returns an explanation of channels.
func explanation(options ...option) api.SensorExplanation {
	var x api.SensorExplanation
	for _, o := range options {
		x.Sources = append(x.Sources, o.source)
		x.Reversed = append(x.Reversed, o.isReversed)
	}
	return x
}

// watch returns a watch.
func watch(limit, need, hold int) api.SensorWatch {
	return api.SensorWatch{Limit: limit, Need: need, Hold: hold}
}

// examplePairs returns the pairs of the example 1.
func examplePairs() []api.SensorPair { return pairsOf(10, 1, 20, 3, 60, 5) }

// exampleTruth and exampleMeasured return those of the example 6.
func exampleTruth() api.SensorTruth { return truth(1, []int{1, 5, 9}, []int{2, -4, 8}) }
func exampleMeasured() [][]int      { return rows([]int{-2, 4, -7}, []int{1, 4, 9}) }

// exampleExplanation returns that of the example 6.
func exampleExplanation() api.SensorExplanation { return explanation(reverse(1), straight(0)) }

// exampleWatchers and exampleWatch return those of the example 8.
func exampleWatchers() [][]int {
	return rows([]int{1, 8, 9, 9}, []int{2, 7, 1, 8}, []int{9, 9, 9, 2})
}
func exampleWatch() api.SensorWatch { return watch(5, 2, 3) }

// exampleImage returns that of the example 9.
func exampleImage() [][]int { return rows([]int{0, 1}, []int{2, 1}) }

// zeros returns so many rows of so many samples or pixels of 0.
func zeros(count, length int) [][]int {
	var l [][]int
	for range count {
		l = append(l, make([]int, length))
	}
	return l
}

// full returns so many rows of so many samples or pixels that are the same.
func full(count, length, sample int) [][]int {
	l := zeros(count, length)
	for _, row := range l {
		for i := range row {
			row[i] = sample
		}
	}
	return l
}

// areSame tells whether values are the same; nil and empty slices are.
func areSame(a, b any) bool { return areAlike(reflect.ValueOf(a), reflect.ValueOf(b)) }

// areAlike tells whether values of one type, without pointers, are the same.
func areAlike(a, b reflect.Value) bool {
	switch a.Kind() {
	case reflect.Slice, reflect.Array:
		if a.Len() != b.Len() {
			return false
		}
		for i := range a.Len() {
			if !areAlike(a.Index(i), b.Index(i)) {
				return false
			}
		}
		return true
	case reflect.Struct:
		for i := range a.NumField() {
			if !areAlike(a.Field(i), b.Field(i)) {
				return false
			}
		}
		return true
	}
	return a.Equal(b)
}

// mustBe reports a value or an error that is not as wanted.
func mustBe[T any](t *testing.T, name any, is T, e api.Errno, want T, wantError api.Errno) {
	t.Helper()
	if !areSame(is, want) || e != wantError {
		t.Errorf("%v: %v, %d, want %v, %d", name, is, e, want, wantError)
	}
}

// mustFail reports an error that is not as wanted, or a value that is something.
func mustFail[T any](t *testing.T, name any, is T, e, want api.Errno) {
	t.Helper()
	var zero T
	mustBe(t, name, is, e, zero, want)
}

// mustStay reports what has changed.
func mustStay(t *testing.T, name string, is, was any) {
	t.Helper()
	if !areSame(is, was) {
		t.Error(name, "changed:", is, was)
	}
}

// badPairs is pairs with an error.
type badPairs struct {
	name string
	l    []api.SensorPair
	want api.Errno
}

// allBadPairs lists all errors of pairs; most of them have errors that are listed later, too.
func allBadPairs() []badPairs {
	const far = api.MaxSensorKnown + 1
	return []badPairs{
		{"nothing", nil, api.ErrShape},
		{"empty", []api.SensorPair{}, api.ErrShape},
		{"eleven", slices.Repeat(pairsOf(far, far), 11), api.ErrLarge},
		{"eleven good ones", append(examplePairs(), pairsOf(1, 1, 2, 2, 3, 3, 4, 4, 5, 5, 6, 6, 7, 7, 8, 8)...), api.ErrLarge},
		{"known above", pairsOf(far, 0), api.ErrRange},
		{"known below", pairsOf(0, 1, -far, 2), api.ErrRange},
		{"raw above", pairsOf(0, 1, 0, far), api.ErrRange},
		{"raw below", pairsOf(0, 0, 0, 0, 0, -far), api.ErrRange},
		{"the tenth", append(slices.Repeat(pairsOf(1, 1), 9), pairsOf(far, 1)...), api.ErrRange},
		{"the greatest", pairsOf(math.MaxInt, 0, 0, 1), api.ErrRange},
		{"the smallest", pairsOf(0, 1, 0, math.MinInt), api.ErrRange},
		{"the smallest known", pairsOf(math.MinInt, 1), api.ErrRange},
	}
}

// badLine is a line with an error.
type badLine struct {
	x    api.SensorLine
	want api.Errno
}

// badLines lists all errors of lines; most of them have errors that are listed later, too.
func badLines() []badLine {
	const far = api.MaxSensorNumber + 1
	return []badLine{
		{api.SensorLine{}, api.ErrRange}, {line(1, 1, 0), api.ErrRange}, {line(1, 1, -1), api.ErrRange}, {line(2, 2, -2), api.ErrRange},
		{line(1, 0, far), api.ErrRange}, {line(far, 0, 1), api.ErrRange}, {line(-far, 0, 1), api.ErrRange},
		{line(0, far, 1), api.ErrRange}, {line(0, -far, 1), api.ErrRange}, {line(far+1, 2, 2), api.ErrRange},
		{line(2, -far-1, 2), api.ErrRange}, {line(0, 0, far), api.ErrRange}, {line(0, 0, -2), api.ErrRange},
		{line(math.MaxInt, 0, 1), api.ErrRange}, {line(math.MinInt, 0, 1), api.ErrRange}, {line(0, math.MaxInt, 1), api.ErrRange},
		{line(0, math.MinInt, 1), api.ErrRange}, {line(0, 0, math.MaxInt), api.ErrRange}, {line(0, 0, math.MinInt), api.ErrRange},
		{line(math.MinInt, math.MinInt, math.MinInt), api.ErrRange}, {line(math.MinInt, math.MinInt, -1), api.ErrRange},
		{line(0, 0, 2), api.ErrForm}, {line(2, 4, 2), api.ErrForm}, {line(-3, 6, 9), api.ErrForm}, {line(0, 5, 5), api.ErrForm},
		{line(7, 0, 7), api.ErrForm}, {line(4, 6, 8), api.ErrForm}, {line(-4, -6, 8), api.ErrForm}, {line(15, 25, 5), api.ErrForm},
		{line(0, 0, api.MaxSensorNumber), api.ErrForm}, {line(api.MaxSensorNumber, -api.MaxSensorNumber, api.MaxSensorNumber), api.ErrForm},
	}
}

// goodLines lists lines, those at the ends of what is permitted among them.
func goodLines() []api.SensorLine {
	const most = api.MaxSensorNumber
	return []api.SensorLine{
		line(25, -15, 2), line(-25, -15, 2), line(1, 0, 1), line(0, 0, 1), line(0, 7, 1), line(0, -7, 1), line(2, 2, 1), line(-4, 6, 3), line(6, 10, 15),
		line(most, most, 1), line(-most, -most, 1), line(1, 0, most), line(0, 1, most), line(-1, 0, most), line(most, most-1, most), line(most-1, -most, most),
		line(1, 1, 2), line(-1, 1, 2), line(1, -1, 3), line(-7, 2, 3), line(10000, 10000, 9999), line(0, -1, 2),
	}
}

// badRaw is raw samples with an error, and what CheckRaw says of them.
type badRaw struct {
	name  string
	raw   []int
	index int
	want  api.Errno
}

// badRaws lists all errors of raw samples; most of them have errors that are listed later, or stand in later samples, too.
func badRaws() []badRaw {
	const far = api.MaxSensorRaw + 1
	return []badRaw{
		{"nothing", nil, 0, api.ErrShape},
		{"empty", []int{}, 0, api.ErrShape},
		{"sixty-one", slices.Repeat([]int{far}, 61), 0, api.ErrLarge},
		{"sixty-one good ones", make([]int, 61), 0, api.ErrLarge},
		{"above", []int{far}, 0, api.ErrRange},
		{"below", []int{0, -far, far}, 1, api.ErrRange},
		{"the last one", append(make([]int, 59), far), 59, api.ErrRange},
		{"the greatest", []int{0, 0, math.MaxInt, math.MinInt}, 2, api.ErrRange},
		{"the smallest", []int{0, math.MinInt}, 1, api.ErrRange},
	}
}

// badRows is channels, signals or watchers with an error, and the index of the first one that has it.
type badRows struct {
	name  string
	l     [][]int
	index int
	want  api.Errno
}

// allBadRows lists all errors of channels by themselves, of which there may be so many; most of them have errors that are listed later, or stand in later channels, too.
func allBadRows(most int) []badRows {
	const far = api.MaxSensorRaw + 1
	good := []int{1, 2}
	l := []badRows{
		{"nothing", nil, 0, api.ErrShape},
		{"empty", rows(), 0, api.ErrShape},
		{"too many", full(most+1, 1, far), 0, api.ErrLarge},
		{"too many good ones", zeros(most+1, 2), 0, api.ErrLarge},
		{"too many without samples", zeros(most+1, 0), 0, api.ErrLarge},
		{"one sample more", rows(good, []int{1, 2, 3}, nil), 1, api.ErrClash},
		{"one sample less", rows(good, good, []int{1}), 2, api.ErrClash},
		{"one sample more than the longest", rows(make([]int, 60), make([]int, 61)), 1, api.ErrLarge},
		{"too great, and too long", rows(good, []int{1, far, 3}), 1, api.ErrRange},
		{"too long before too great", rows(good, []int{1, 2, 3}, []int{far, 0}), 1, api.ErrClash},
		{"the last one", append(zeros(most-1, 2), []int{0, -far}), most - 1, api.ErrRange},
	}
	for _, x := range badRaws() {
		l = append(l, badRows{"first " + x.name, rows(x.raw, good, nil), 0, x.want}, badRows{"second " + x.name, rows(good, x.raw), 1, x.want})
	}
	return l
}

// badTruth is a truth with an error, and what CheckTruth says of it.
type badTruth struct {
	name  string
	x     api.SensorTruth
	index int
	want  api.Errno
}

// badTruths lists all errors of the truth; most of them have errors that are listed later, too.
func badTruths() []badTruth {
	var l []badTruth
	for _, x := range allBadRows(api.MaxSensorChannels) {
		l = append(l, badTruth{x.name, truth(-1, x.l...), x.index, x.want}, badTruth{x.name, truth(0, x.l...), x.index, x.want})
	}
	for _, off := range []int{-1, api.MaxSensorOff + 1, math.MaxInt, math.MinInt} {
		l = append(l, badTruth{"Off", truth(off, []int{1, 2}, []int{3, 4}), 0, api.ErrRange})
	}
	return l
}

// badExplanation is an explanation of three channels with an error.
type badExplanation struct {
	name string
	x    api.SensorExplanation
	want api.Errno
}

// badExplanations lists all errors of explanations of three channels; most of them have errors that are listed later, too.
func badExplanations() []badExplanation {
	return []badExplanation{
		{"nothing", api.SensorExplanation{}, api.ErrShape},
		{"empty", api.SensorExplanation{Sources: []int{}, Reversed: []bool{}}, api.ErrShape},
		{"no sources", api.SensorExplanation{Reversed: make([]bool, 3)}, api.ErrShape},
		{"nothing reversed", api.SensorExplanation{Sources: []int{9, 9, 9}}, api.ErrShape},
		{"two sources", api.SensorExplanation{Sources: []int{0, 9}, Reversed: make([]bool, 3)}, api.ErrShape},
		{"two that may be reversed", api.SensorExplanation{Sources: []int{0, 1, 9}, Reversed: make([]bool, 2)}, api.ErrShape},
		{"four sources", api.SensorExplanation{Sources: []int{0, 1, 2, 0}, Reversed: make([]bool, 3)}, api.ErrShape},
		{"four that may be reversed", api.SensorExplanation{Sources: []int{0, 1, 2}, Reversed: make([]bool, 4)}, api.ErrShape},
		{"two", explanation(straight(0), straight(1)), api.ErrShape},
		{"four", explanation(straight(0), straight(1), straight(2), straight(3)), api.ErrShape},
		{"source below", explanation(straight(0), straight(-2), reverse(-1)), api.ErrMissing},
		{"source above", explanation(straight(3), straight(3), straight(-1)), api.ErrMissing},
		{"source above in the last one", explanation(straight(2), straight(1), reverse(3)), api.ErrMissing},
		{"the greatest source", explanation(straight(0), straight(math.MaxInt), straight(0)), api.ErrMissing},
		{"the smallest source", explanation(straight(math.MinInt), straight(0), straight(0)), api.ErrMissing},
		{"the smallest source twice", explanation(straight(0), straight(-3), straight(-3)), api.ErrMissing},
		{"twice", explanation(straight(1), straight(1), straight(9)), api.ErrDouble},
		{"twice, with another one between", explanation(straight(2), straight(0), straight(2)), api.ErrDouble},
		{"twice, the other way", explanation(straight(0), reverse(0), reverse(-1)), api.ErrDouble},
		{"loose and reversed", explanation(reverse(-1), straight(9), straight(9)), api.ErrForm},
		{"loose and reversed in the last one", explanation(straight(-1), straight(-1), reverse(-1)), api.ErrForm},
		{"loose and reversed before one that is missing", explanation(straight(2), reverse(-1), straight(2)), api.ErrForm},
	}
}

// badWatch is a watch of three watchers with an error.
type badWatch struct {
	name string
	x    api.SensorWatch
}

// badWatches lists all watches of three watchers that have a number outside of its range.
func badWatches() []badWatch {
	return []badWatch{
		{"nothing", api.SensorWatch{}},
		{"limit below 0", watch(-1, 1, 1)},
		{"limit above", watch(api.MaxSensorRaw+1, 1, 1)},
		{"the greatest limit", watch(math.MaxInt, 1, 1)},
		{"the smallest limit", watch(math.MinInt, 1, 1)},
		{"need 0", watch(5, 0, 1)},
		{"need below 0", watch(5, -1, 1)},
		{"need above", watch(5, 4, 1)},
		{"the greatest need", watch(5, math.MaxInt, 1)},
		{"the smallest need", watch(5, math.MinInt, 1)},
		{"hold 0", watch(5, 1, 0)},
		{"hold below 0", watch(5, 1, -1)},
		{"hold above", watch(5, 1, 61)},
		{"the greatest hold", watch(5, 1, math.MaxInt)},
		{"the smallest hold", watch(5, 1, math.MinInt)},
	}
}

// badImage is an image with an error.
type badImage struct {
	name  string
	image [][]int
	want  api.Errno
}

// badImages lists all errors of images; most of them have errors that are listed later, too.
func badImages() []badImage {
	const far = api.MaxSensorPixel + 1
	return []badImage{
		{"nothing", nil, api.ErrShape},
		{"empty", rows(), api.ErrShape},
		{"no pixels", zeros(1, 0), api.ErrShape},
		{"eleven rows without pixels", zeros(11, 0), api.ErrShape},
		{"one pixel less", rows([]int{far, 1}, []int{1, 1}, []int{0}), api.ErrShape},
		{"one pixel more", rows([]int{1, 1}, []int{1, 1, 1}), api.ErrShape},
		{"a row without pixels", rows([]int{1}, nil, []int{1}), api.ErrShape},
		{"the first row without pixels", rows(nil, []int{1}), api.ErrShape},
		{"eleven rows, the last one too short", append(full(10, 2, far), []int{1}), api.ErrShape},
		{"eleven pixels, then ten", rows(make([]int, 11), make([]int, 10)), api.ErrShape},
		{"eleven rows", full(11, 1, far), api.ErrLarge},
		{"eleven good rows", full(11, 10, 1), api.ErrLarge},
		{"eleven dark rows", zeros(11, 1), api.ErrLarge},
		{"eleven pixels", full(1, 11, -1), api.ErrLarge},
		{"eleven good pixels", full(10, 11, 1), api.ErrLarge},
		{"pixel below 0", rows([]int{0, 0}, []int{-1, 1}), api.ErrRange},
		{"pixel above", rows([]int{1, far}), api.ErrRange},
		{"the last pixel", append(full(9, 1, 255), []int{far}), api.ErrRange},
		{"the greatest pixel", rows([]int{math.MaxInt}), api.ErrRange},
		{"the smallest pixel", rows([]int{math.MinInt}), api.ErrRange},
		{"pixels that add up to 0", rows([]int{-1, 1}), api.ErrRange},
		{"one dark pixel", zeros(1, 1), api.ErrZero},
		{"dark", zeros(10, 10), api.ErrZero},
	}
}

// fixedRandom returns the same numbers in each run.
func fixedRandom() *rand.Rand { return rand.New(rand.NewPCG(7, 7)) }

// within returns a number that is not greater in size than another one.
func within(random *rand.Rand, size int) int { return random.IntN(2*size+1) - size }

// someRaw returns so many raw samples that are at most so great in size.
func someRaw(random *rand.Rand, count, size int) []int {
	var raw []int
	for range count {
		raw = append(raw, within(random, size))
	}
	return raw
}

// somePairs returns pairs of which not all raw samples are the same.
func somePairs(random *rand.Rand) []api.SensorPair {
	size := []int{3, 50, api.MaxSensorKnown}[random.IntN(3)]
	l := pairsOf(within(random, size), 1, within(random, size), 2+random.IntN(3))
	for range random.IntN(api.MaxSensorPairs - 1) {
		l = append(l, api.SensorPair{Known: within(random, size), Raw: within(random, size)})
	}
	return l
}

// someLine returns a line in lowest terms, whose numbers are at most so great in size.
func someLine(random *rand.Rand, size int) api.SensorLine {
	gain, offset, den := big.NewInt(int64(within(random, size))), big.NewInt(int64(within(random, size))), big.NewInt(int64(1+random.IntN(size)))
	divisor := new(big.Int).GCD(nil, nil, new(big.Int).GCD(nil, nil, new(big.Int).Abs(gain), new(big.Int).Abs(offset)), den)
	return line(int(gain.Quo(gain, divisor).Int64()), int(offset.Quo(offset, divisor).Int64()), int(den.Quo(den, divisor).Int64()))
}
