package safety_test

import (
	"math"
	"math/rand/v2"
	"slices"
	"testing"

	"ductility/api"
	"ductility/safety"
)

// watch returns a watch.
func watch(limit, need int) api.SafetyWatch { return api.SafetyWatch{Limit: limit, Need: need} }

// ranges returns ranges, of each both ends.
func ranges(ends ...int) []api.Range {
	var l []api.Range
	for x := range slices.Chunk(ends, 2) {
		l = append(l, to(x[0], x[1]))
	}
	return l
}

// P9.4, example 5, and edge cases
func TestTripOf(t *testing.T) {
	for _, y := range []struct {
		w        api.SafetyWatch
		readings []api.Range
		want     int
	}{
		{watch(100, 2), ranges(90, 95, 101, 110, 99, 120), api.AnswerMaybe},
		{watch(100, 2), ranges(90, 95, 101, 110, 105, 120), api.AnswerYes},
		{watch(100, 2), ranges(90, 95, 101, 110, 80, 99), api.AnswerNo},
		{watch(100, 1), nil, api.AnswerNo},
		{watch(-1000000, 1), ranges(), api.AnswerNo},
		{watch(0, 1), ranges(0, 0), api.AnswerNo},
		{watch(0, 1), ranges(0, 1), api.AnswerMaybe},
		{watch(0, 1), ranges(1, 1), api.AnswerYes},
		{watch(0, 1), ranges(-5, 0), api.AnswerNo},
		{watch(0, 1), ranges(-5, 5), api.AnswerMaybe},
		{watch(-3, 1), ranges(-3, -3), api.AnswerNo},
		{watch(-3, 1), ranges(-3, -2), api.AnswerMaybe},
		{watch(-3, 1), ranges(-2, -2), api.AnswerYes},
		{watch(0, 2), ranges(1, 1), api.AnswerNo},
		{watch(0, 8), ranges(1, 9, 1, 9, 1, 9), api.AnswerNo},
		{watch(0, 3), ranges(1, 9, 1, 9, 1, 9), api.AnswerYes},
		{watch(0, 3), ranges(1, 9, 0, 9, 1, 9), api.AnswerMaybe},
		{watch(0, 2), ranges(1, 9, 0, 9, 1, 9), api.AnswerYes},
		{watch(0, 1), ranges(0, 9, 0, 9, 0, 9), api.AnswerMaybe},
		{watch(0, 8), ranges(1, 2, 1, 2, 1, 2, 1, 2, 1, 2, 1, 2, 1, 2, 1, 2), api.AnswerYes},
		{watch(0, 8), ranges(1, 2, 1, 2, 1, 2, 1, 2, 1, 2, 1, 2, 1, 2, 0, 2), api.AnswerMaybe},
		{watch(0, 8), ranges(1, 2, 1, 2, 1, 2, 1, 2, 1, 2, 1, 2, 1, 2, 0, 0), api.AnswerNo},
		{watch(999999, 1), ranges(1000000, 1000000), api.AnswerYes},
		{watch(1000000, 1), ranges(1000000, 1000000), api.AnswerNo},
		{watch(-1000000, 1), ranges(-1000000, 1000000), api.AnswerMaybe},
		{watch(-1000000, 1), ranges(-1000000, -1000000), api.AnswerNo},
	} {
		answer, e := safety.TripOf(y.w, y.readings)
		mustBe(t, y, answer, e, y.want, api.OK)
	}
}

// P9.4
func TestErrorsOfWatches(t *testing.T) {
	good := ranges(90, 95, 101, 110, 105, 120)
	for _, y := range []struct {
		name     string
		w        api.SafetyWatch
		readings []api.Range
		want     api.Errno
	}{
		{"limit above", watch(1000001, 2), good, api.ErrRange},
		{"limit below", watch(-1000001, 2), good, api.ErrRange},
		{"the greatest limit", watch(math.MaxInt, 2), good, api.ErrRange},
		{"the smallest limit", watch(math.MinInt, 2), good, api.ErrRange},
		{"need 0", watch(100, 0), good, api.ErrRange},
		{"need below 0", watch(100, -1), good, api.ErrRange},
		{"need above", watch(100, 9), good, api.ErrRange},
		{"the greatest need", watch(100, math.MaxInt), good, api.ErrRange},
		{"the smallest need", watch(100, math.MinInt), good, api.ErrRange},
		{"need before too many", watch(100, 0), ranges(make([]int, 18)...), api.ErrRange},
		{"limit before order", watch(1000001, 1), ranges(1, 0), api.ErrRange},
		{"nine", watch(100, 2), ranges(make([]int, 18)...), api.ErrLarge},
		{"nine, and order", watch(100, 2), slices.Repeat(ranges(1, 0), 9), api.ErrLarge},
		{"very many", watch(100, 2), make([]api.Range, 1000000), api.ErrLarge},
		{"end above", watch(100, 2), ranges(0, 1000001), api.ErrRange},
		{"end below", watch(100, 2), ranges(-1000001, 0), api.ErrRange},
		{"range before order", watch(100, 2), ranges(1000001, 0), api.ErrRange},
		{"range of the last one", watch(100, 2), append(slices.Clone(good), to(0, 1000001)), api.ErrRange},
		{"the greatest", watch(100, 2), ranges(0, math.MaxInt), api.ErrRange},
		{"the smallest", watch(100, 2), ranges(math.MinInt, 0), api.ErrRange},
		{"both", watch(100, 2), ranges(math.MaxInt, math.MinInt), api.ErrRange},
		{"order", watch(100, 2), ranges(1, 0, 0, 1000001), api.ErrOrder},
		{"order of the last one", watch(100, 2), append(slices.Clone(good), to(0, -1)), api.ErrOrder},
		{"range of the first one", watch(100, 2), ranges(0, 1000001, 1, 0), api.ErrRange},
		{"order, although it is decided", watch(100, 1), ranges(101, 102, 7, 6), api.ErrOrder},
	} {
		answer, e := safety.TripOf(y.w, y.readings)
		mustFail(t, y.name, answer, e, y.want)
	}
}

// someReadings returns ranges around 0.
func someReadings(random *rand.Rand) []api.Range {
	var l []api.Range
	for range random.IntN(api.MaxSafetyWatch + 1) {
		lo := within(random, 4)
		l = append(l, to(lo, lo+random.IntN(4)))
	}
	return l
}

// P9.11: true readings trip if a trip is sure, and do not if there is surely none; all of them together decide.
func TestTrueReadings(t *testing.T) {
	random := fixedRandom()
	for range 2000 {
		w := watch(within(random, 3), 1+random.IntN(api.MaxSafetyWatch))
		readings := someReadings(random)
		least, most := 0, 0
		for _, x := range readings {
			isAlways, isEver := true, false
			for truth := x.Lo; truth <= x.Hi; truth++ {
				isAlways = isAlways && truth > w.Limit
				isEver = isEver || truth > w.Limit
			}
			if isAlways {
				least++
			}
			if isEver {
				most++
			}
		}
		want := api.AnswerMaybe
		if least >= w.Need {
			want = api.AnswerYes
		}
		if most < w.Need {
			want = api.AnswerNo
		}
		answer, e := safety.TripOf(w, readings)
		mustBe(t, w, answer, e, want, api.OK)
		for range 10 {
			trips := 0
			for _, x := range readings {
				if x.Lo+random.IntN(x.Hi-x.Lo+1) > w.Limit {
					trips++
				}
			}
			isTripped := trips >= w.Need
			if isTripped && answer == api.AnswerNo || !isTripped && answer == api.AnswerYes {
				t.Error(w, readings, trips, answer)
			}
		}
	}
}

// P9.11: with a smaller need, or a smaller limit, a trip is no less sure.
func TestSurerTrips(t *testing.T) {
	random := fixedRandom()
	for range 1000 {
		readings := someReadings(random)
		for need := 1; need <= api.MaxSafetyWatch; need++ {
			for limit := -6; limit <= 6; limit++ {
				answer, e := safety.TripOf(watch(limit, need), readings)
				lower, lowerError := safety.TripOf(watch(limit-1, need), readings)
				if e != api.OK || lowerError != api.OK || lower < answer {
					t.Error(readings, limit, need, answer, lower)
				}
				if need == 1 {
					continue
				}
				fewer, fewerError := safety.TripOf(watch(limit, need-1), readings)
				if fewerError != api.OK || fewer < answer {
					t.Error(readings, limit, need, answer, fewer)
				}
			}
		}
	}
}
