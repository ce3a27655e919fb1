package sensor_test

import (
	"math"
	"slices"
	"testing"

	"ductility/api"
	"ductility/sensor"
)

// P7.2
func TestRaw(t *testing.T) {
	for _, x := range badRaws() {
		index, e := sensor.CheckRaw(x.raw)
		mustBe(t, x.name, index, e, x.index, x.want)
	}
	const most = api.MaxSensorRaw
	for _, raw := range [][]int{{0}, {most}, {-most}, {1, most, -most, 2}, make([]int, 60), slices.Repeat([]int{-most, most}, 30)} {
		index, e := sensor.CheckRaw(raw)
		mustBe(t, raw, index, e, 0, api.OK)
	}
}

// P7.2, example 3 and edge cases
func TestClipped(t *testing.T) {
	const most = api.MaxSensorRaw
	for _, x := range []struct {
		name   string
		raw    []int
		limits api.Range
		want   []api.Range
	}{
		{"example", []int{1, 9, 10, 12, 3, 0, 5}, to(0, 10), list(to(2, 3), to(5, 5))},
		{"inside", []int{1, 9, 1, 9}, to(0, 10), nil},
		{"all outside", []int{10, 11, 0, -1}, to(0, 10), list(to(0, 3))},
		{"both limits beside each other", []int{5, 10, 0, 5, 0, 10}, to(0, 10), list(to(1, 2), to(4, 5))},
		{"at both ends", []int{10, 5, 5, 0}, to(0, 10), list(to(0, 0), to(3, 3))},
		{"one sample outside", []int{10}, to(0, 10), list(to(0, 0))},
		{"one sample inside", []int{9}, to(0, 10), nil},
		{"limits without an inside", []int{4, 5, 6}, to(5, 5), list(to(0, 2))},
		{"limits with nothing inside", []int{4, 5, 6}, to(5, 6), list(to(0, 2))},
		{"limits with one number inside", []int{4, 5, 6, 5, 5}, to(4, 6), list(to(0, 0), to(2, 2))},
		{"limits below 0", []int{-5, -6, -4, 0}, to(-6, -4), list(to(1, 3))},
		{"turn by turn", []int{0, 5, 0, 5, 0}, to(0, 10), list(to(0, 0), to(2, 2), to(4, 4))},
		{"the greatest limits", []int{most, most - 1, -most, 1 - most}, to(-most, most), list(to(0, 0), to(2, 2))},
		{"limits at one end", []int{most, -most}, to(most, most), list(to(0, 1))},
	} {
		is, e := sensor.ClippedIn(x.raw, x.limits)
		mustBe(t, x.name, is, e, x.want, api.OK)
	}
}

// P7.2
func TestClippedErrors(t *testing.T) {
	const far = api.MaxSensorRaw + 1
	wide := []api.Range{to(-far, 0), to(0, far), to(far, far), to(-far, -far), to(far, 0), to(0, -far), to(math.MinInt, 0), to(0, math.MaxInt), to(math.MaxInt, math.MinInt), to(0, math.MinInt)}
	for _, x := range badRaws() {
		for _, limits := range append(wide, to(0, 1), to(1, 0)) {
			is, e := sensor.ClippedIn(x.raw, limits)
			mustFail(t, x.name, is, e, x.want)
		}
	}
	for _, limits := range wide {
		is, e := sensor.ClippedIn([]int{0, 5}, limits)
		mustFail(t, limits, is, e, api.ErrRange)
	}
	for _, limits := range list(to(1, 0), to(far-1, 1-far), to(-3, -4)) {
		is, e := sensor.ClippedIn([]int{0, 5}, limits)
		mustFail(t, limits, is, e, api.ErrOrder)
	}
}

// P7.2, example 3 and edge cases
func TestStuck(t *testing.T) {
	example := []int{4, 4, 4, 1, 2, 2}
	for _, x := range []struct {
		name   string
		raw    []int
		length int
		want   []api.Range
	}{
		{"example", example, 2, list(to(0, 2), to(4, 5))},
		{"example, longer", example, 3, list(to(0, 2))},
		{"example, too long", example, 4, nil},
		{"longer than all samples", example, 60, nil},
		{"one sample", []int{1}, 2, nil},
		{"two samples", []int{1, 1}, 2, list(to(0, 1))},
		{"two other samples", []int{1, 2}, 2, nil},
		{"all", make([]int, 60), 60, list(to(0, 59))},
		{"all but one", make([]int, 59), 60, nil},
		{"opposite ones", []int{1, -1, 1, -1}, 2, nil},
		{"one after the other", []int{1, 1, 2, 2, 1, 1}, 2, list(to(0, 1), to(2, 3), to(4, 5))},
		{"equal, but apart", []int{1, 1, 2, 1, 1, 1}, 3, list(to(3, 5))},
		{"slowly rising", []int{1, 2, 3, 4}, 2, nil},
		{"in the middle", []int{1, 0, 0, 0, 2}, 3, list(to(1, 3))},
	} {
		is, e := sensor.StuckIn(x.raw, x.length)
		mustBe(t, x.name, is, e, x.want, api.OK)
	}
	for _, length := range []int{1, 0, -1, 61, math.MaxInt, math.MinInt} {
		is, e := sensor.StuckIn(example, length)
		mustFail(t, length, is, e, api.ErrRange)
		for _, x := range badRaws() {
			is, e := sensor.StuckIn(x.raw, length)
			mustFail(t, x.name, is, e, x.want)
		}
	}
	for _, x := range badRaws() {
		is, e := sensor.StuckIn(x.raw, 2)
		mustFail(t, x.name, is, e, x.want)
	}
}

// rangesByHand returns all ranges of samples of which something is true, and of no greater range.
func rangesByHand(count int, isTrue func(lo, hi int) bool) []api.Range {
	var l []api.Range
	for lo := range count {
		for hi := lo; hi < count; hi++ {
			isWider := lo > 0 && isTrue(lo-1, hi) || hi+1 < count && isTrue(lo, hi+1)
			if isTrue(lo, hi) && !isWider {
				l = append(l, to(lo, hi))
			}
		}
	}
	return l
}

// P7.2
func TestRangesByHand(t *testing.T) {
	random := fixedRandom()
	for range 1000 {
		raw := someRaw(random, 1+random.IntN(20), 1+random.IntN(4))
		lo := within(random, 4)
		limits := to(lo, lo+random.IntN(5))
		clipped, e := sensor.ClippedIn(raw, limits)
		mustBe(t, raw, clipped, e, rangesByHand(len(raw), func(lo, hi int) bool {
			return !slices.ContainsFunc(raw[lo:hi+1], func(a int) bool { return a > limits.Lo && a < limits.Hi })
		}), api.OK)
		length := 2 + random.IntN(3)
		stuck, e := sensor.StuckIn(raw, length)
		mustBe(t, raw, stuck, e, rangesByHand(len(raw), func(lo, hi int) bool {
			return slices.Min(raw[lo:hi+1]) == slices.Max(raw[lo:hi+1]) && hi-lo+1 >= length
		}), api.OK)
	}
}

// P7.2, example 4 and edge cases
func TestShifts(t *testing.T) {
	const most = api.MaxSensorRaw
	a, b := []int{0, 1, 5, 0, 0}, []int{0, 0, 1, 5, 0}
	pulse := func(count, at int) []int {
		raw := make([]int, count)
		raw[at] = 1
		return raw
	}
	for _, x := range []struct {
		name string
		a, b []int
		most int
		want int
	}{
		{"example", a, b, 2, 1},
		{"example, the other way", b, a, 2, -1},
		{"the limit 1", a, b, 1, 1},
		{"the limit 0", a, b, 0, 0},
		{"the greatest limit", a, b, 20, 1},
		{"equal", a, a, 20, 0},
		{"beyond the limit", pulse(9, 1), pulse(9, 6), 4, 0},
		{"at the limit", pulse(9, 1), pulse(9, 6), 5, 5},
		{"at the limit, the other way", pulse(9, 6), pulse(9, 1), 5, -5},
		{"far", pulse(60, 39), pulse(60, 59), 20, 20},
		{"far, the other way", pulse(60, 59), pulse(60, 39), 20, -20},
		{"too far", pulse(60, 38), pulse(60, 59), 20, 0},
		{"all sums are 0", []int{0, 0, 0}, []int{1, 2, 3}, 2, 0},
		{"both sides", []int{0, 1, 0}, []int{1, 0, 1}, 2, -1},
		{"both sides, far", []int{0, 0, 1, 0, 0}, []int{1, 0, 0, 0, 1}, 2, -2},
		{"the smaller size of equal sums", []int{0, 0, 1, 0, 0}, []int{1, 0, 0, 1, 0}, 2, 1},
		{"0 of equal sums", []int{1, 1}, []int{1, 1}, 0, 0},
		{"0 before -1", []int{0, 1, 0}, []int{1, 1, 0}, 2, 0},
		{"samples that are opposite", []int{1}, []int{-1}, 0, 0},
		{"nothing is better than a sum below 0", []int{1}, []int{-1}, 1, -1},
		{"nothing is better, but far", []int{1, 1}, []int{-1, -1}, 20, -2},
		{"a sum below 0", []int{1, 2}, []int{-2, -1}, 1, 1},
		{"the only pair that is above 0", []int{-3, 0, 0}, []int{5, 0, -4}, 2, 2},
		{"the greatest samples", slices.Repeat([]int{most}, 60), slices.Repeat([]int{most}, 60), 20, 0},
		{"the greatest samples turn by turn", slices.Repeat([]int{most, -most}, 30), slices.Repeat([]int{-most, most}, 30), 20, -1},
	} {
		is, e := sensor.ShiftOf(x.a, x.b, x.most)
		mustBe(t, x.name, is, e, x.want, api.OK)
	}
}

// bothErrors checks a function of two channels, and of a number that is not from 0 to a limit.
func bothErrors[T any](t *testing.T, limit int, of func(a, b []int, number int) (T, api.Errno)) {
	t.Helper()
	good, longer := []int{1, 2, 3}, []int{1, 2, 3, 4}
	far := []int{-1, limit + 1, math.MaxInt, math.MinInt}
	for _, number := range append(far, 0, limit) {
		for _, x := range badRaws() {
			is, e := of(x.raw, good, number)
			mustFail(t, x.name, is, e, x.want)
			is, e = of(good, x.raw, number)
			mustFail(t, x.name, is, e, x.want)
			for _, y := range badRaws() {
				is, e = of(x.raw, y.raw, number)
				mustFail(t, x.name, is, e, x.want)
			}
		}
		is, e := of(good, longer, number)
		mustFail(t, "longer", is, e, api.ErrClash)
		is, e = of(longer, good, number)
		mustFail(t, "shorter", is, e, api.ErrClash)
	}
	for _, number := range far {
		is, e := of(good, good, number)
		mustFail(t, number, is, e, api.ErrRange)
	}
	for _, number := range []int{0, limit} {
		if _, e := of(good, good, number); e != api.OK {
			t.Error(number, e)
		}
	}
}

// P7.2
func TestShiftErrors(t *testing.T) { bothErrors(t, api.MaxSensorShift, sensor.ShiftOf) }

// sumByHand returns the sum of the products of all pairs of samples that are so far apart.
func sumByHand(a, b []int, shift int) int {
	sum := 0
	for i, x := range a {
		for k, y := range b {
			if k-i == shift {
				sum += x * y
			}
		}
	}
	return sum
}

// P7.2, P7.9: the sum at the shift is the greatest, and those of exchanged channels are the same at opposite shifts.
func TestShiftsByHand(t *testing.T) {
	random := fixedRandom()
	for range 1500 {
		count, size, most := 1+random.IntN(12), 1+random.IntN(3), random.IntN(21)
		a, b := someRaw(random, count, size), someRaw(random, count, size)
		want, best := 0, sumByHand(a, b, 0)
		for shift := -most; shift <= most; shift++ {
			sum := sumByHand(a, b, shift)
			if sum != sumByHand(b, a, -shift) {
				t.Error(a, b, shift)
			}
			isNearer := max(shift, -shift) < max(want, -want)
			if sum > best || sum == best && isNearer {
				want, best = shift, sum
			}
		}
		is, e := sensor.ShiftOf(a, b, most)
		mustBe(t, a, is, e, want, api.OK)
	}
}

// P7.9: a channel that is another one, moved, with 0 instead of samples that are missing, is shifted by as much, or by a shift whose sum is no less.
func TestShifted(t *testing.T) {
	random := fixedRandom()
	found := 0
	for range 500 {
		count := 20 + random.IntN(41)
		shift := within(random, 10)
		a, b := make([]int, count), make([]int, count)
		for i := range a {
			if i+shift >= 0 && i+shift < count {
				a[i] = within(random, 50)
				b[i+shift] = a[i]
			}
		}
		is, e := sensor.ShiftOf(a, b, 20)
		if e != api.OK || sumByHand(a, b, is) != sumByHand(a, b, shift) {
			t.Error(a, b, is, shift, e)
		}
		back, e := sensor.ShiftOf(b, a, 20)
		if e != api.OK || sumByHand(b, a, back) != sumByHand(a, b, shift) {
			t.Error(a, b, back, shift, e)
		}
		if is == shift && back == -shift {
			found++
		}
	}
	if found < 490 {
		t.Error(found)
	}
}

// P7.2, example 5 and edge cases
func TestCurves(t *testing.T) {
	const most = api.MaxSensorRaw
	for _, x := range []struct{ raw, want []int }{
		{[]int{0, 1, 4, 9, 10}, []int{2, 2, -4}},
		{[]int{1, 2, 3}, []int{0}},
		{[]int{5, 5, 5, 5}, []int{0, 0}},
		{[]int{0, 1, 0}, []int{-2}},
		{[]int{7, 0, 0, 3}, []int{7, 3}},
		{[]int{most, -most, most, -most}, []int{4 * most, -4 * most}},
		{make([]int, 60), make([]int, 58)},
	} {
		is, e := sensor.CurvesOf(x.raw)
		mustBe(t, x.raw, is, e, x.want, api.OK)
	}
	for _, raw := range [][]int{{1}, {1, 2}, {0, 0}} {
		is, e := sensor.CurvesOf(raw)
		mustFail(t, raw, is, e, api.ErrNone)
	}
	for _, x := range append(badRaws(), badRaw{"three, one too great", []int{1, 2, 100001}, 2, api.ErrRange}, badRaw{"two, one too great", []int{1, -100001}, 1, api.ErrRange}) {
		is, e := sensor.CurvesOf(x.raw)
		mustFail(t, x.name, is, e, x.want)
	}
}

// P7.2, example 5 and edge cases
func TestStrange(t *testing.T) {
	const most = api.MaxSensorRaw
	places := []int{0, 1, 4, 9, 10}
	for _, x := range []struct {
		name                  string
		places, accelerations []int
		off                   int
		want                  []int
	}{
		{"example", places, []int{0, 2, 3, -2, 0}, 1, []int{3}},
		{"off by 2", places, []int{0, 2, 3, -2, 0}, 2, nil},
		{"off by 0", places, []int{0, 2, 3, -2, 0}, 0, []int{2, 3}},
		{"curves", places, []int{99, 2, 2, -4, 99}, 0, nil},
		{"all", places, []int{0, 0, 0, 0, 0}, 1, []int{1, 2, 3}},
		{"the opposite", places, []int{0, -2, -2, 4, 0}, 7, []int{3}},
		{"the opposite, off by as much", places, []int{0, -2, -2, 4, 0}, 8, nil},
		{"too small and too great", []int{0, 0, 0, 0}, []int{0, 3, -3, 0}, 2, []int{1, 2}},
		{"too small and too great, off by as much", []int{0, 0, 0, 0}, []int{0, 3, -3, 0}, 3, nil},
		{"one sample", []int{1}, []int{9}, 0, nil},
		{"two samples", []int{1, 2}, []int{9, 9}, 0, nil},
		{"three samples", []int{1, 2, 1}, []int{9, 9, 9}, 0, []int{1}},
		{"the greatest samples", []int{most, -most, most}, []int{0, -most, 0}, api.MaxSensorOff, []int{1}},
		{"the greatest number", []int{0, 0, 0}, []int{0, -most, 0}, api.MaxSensorOff, nil},
		{"the greatest number less 1", []int{0, 0, 0}, []int{0, -most, 0}, api.MaxSensorOff - 1, []int{1}},
	} {
		is, e := sensor.StrangeIn(x.places, x.accelerations, x.off)
		mustBe(t, x.name, is, e, x.want, api.OK)
	}
}

// P7.2
func TestStrangeErrors(t *testing.T) { bothErrors(t, api.MaxSensorOff, sensor.StrangeIn) }

// P7.10: curves are not strange, and with a greater number no more samples are.
func TestPhysics(t *testing.T) {
	random := fixedRandom()
	for range 500 {
		places := someRaw(random, 3+random.IntN(30), 20)
		curves, e := sensor.CurvesOf(places)
		if e != api.OK || len(curves) != len(places)-2 {
			t.Fatal(places, curves, e)
		}
		exact := slices.Concat([]int{within(random, 100)}, curves, []int{within(random, 100)})
		none, e := sensor.StrangeIn(places, exact, 0)
		mustBe(t, places, none, e, nil, api.OK)
		accelerations := someRaw(random, len(places), 20)
		before := len(places)
		for off := range 100 {
			var want []int
			for i := 1; i+1 < len(places); i++ {
				difference := places[i-1] + places[i+1] - 2*places[i] - accelerations[i]
				if max(difference, -difference) > off {
					want = append(want, i)
				}
			}
			is, e := sensor.StrangeIn(places, accelerations, off)
			mustBe(t, places, is, e, want, api.OK)
			if len(is) > before {
				t.Error(places, accelerations, off)
			}
			before = len(is)
		}
	}
}
