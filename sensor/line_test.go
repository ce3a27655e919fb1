package sensor_test

import (
	"math/big"
	"testing"

	"ductility/api"
	"ductility/sensor"
)

// P7.1
func TestLines(t *testing.T) {
	for _, x := range badLines() {
		if e := sensor.CheckLine(x.x); e != x.want {
			t.Error(x.x, e, x.want)
		}
	}
	for _, x := range goodLines() {
		if e := sensor.CheckLine(x); e != api.OK {
			t.Error(x, e)
		}
	}
}

// P7.1, example 1 and edge cases
func TestCalibrations(t *testing.T) {
	const most = api.MaxSensorKnown
	for _, x := range []struct {
		name   string
		l      []api.SensorPair
		want   api.SensorLine
		misfit api.Frac
	}{
		{"example", examplePairs(), line(25, -15, 2), frac(150, 1)},
		{"two pairs", pairsOf(1, 0, 2, 3), line(1, 3, 3), frac(0, 1)},
		{"two pairs, downwards", pairsOf(5, -1, -6, 3), line(-11, 9, 4), frac(0, 1)},
		{"two pairs, twice", pairsOf(7, 2, 7, 2, 9, 4, 9, 4), line(1, 5, 1), frac(0, 1)},
		{"level", pairsOf(7, 1, 7, 2, 7, 3), line(0, 7, 1), frac(0, 1)},
		{"level, with a misfit", pairsOf(0, 1, 3, 2, 0, 3), line(0, 1, 1), frac(6, 1)},
		{"nothing", pairsOf(0, 0, 0, 1), line(0, 0, 1), frac(0, 1)},
		{"through 0", pairsOf(-4, 2, 6, -3, 2, -1), line(-2, 0, 1), frac(0, 1)},
		{"a misfit that is a fraction", pairsOf(0, 0, 0, 1, 1, 2), line(3, -1, 6), frac(1, 6)},
		{"a raw sample twice", pairsOf(0, 0, 1, 0, 4, 1), line(7, 1, 2), frac(1, 2)},
		{"the greatest numbers", pairsOf(most, most, -most, -most), line(1, 0, 1), frac(0, 1)},
		{"the greatest numbers, downwards", pairsOf(-most, most, most, -most), line(-1, 0, 1), frac(0, 1)},
		{"a great offset", pairsOf(most, most, -most, most-1), line(2*most, most-2*most*most, 1), api.Frac{}},
		{"ten", pairsOf(1, 1, 2, 2, 3, 3, 4, 4, 5, 5, 6, 6, 7, 7, 8, 8, 9, 9, 10, 10), line(1, 0, 1), frac(0, 1)},
	} {
		is, e := sensor.CalibrationOf(x.l)
		mustBe(t, x.name, is, e, x.want, api.OK)
		index, e := sensor.CheckCalibration(x.l, x.want)
		mustBe(t, x.name, index, e, 0, api.OK)
		misfit, e := sensor.MisfitOf(x.l, x.want)
		if x.misfit.Den == 0 {
			mustFail(t, x.name, misfit, e, api.ErrLarge)
			continue
		}
		mustBe(t, x.name, misfit, e, x.misfit, api.OK)
	}
}

// P7.1: errors of pairs come before those of lines, and ErrZero last.
func TestCalibrationErrors(t *testing.T) {
	for _, x := range allBadPairs() {
		is, e := sensor.CalibrationOf(x.l)
		mustFail(t, x.name, is, e, x.want)
		for _, bad := range []api.SensorLine{{}, line(2, 2, 2), line(20000, 0, 1), line(1, 0, 1)} {
			index, e := sensor.CheckCalibration(x.l, bad)
			mustFail(t, x.name, index, e, x.want)
			misfit, e := sensor.MisfitOf(x.l, bad)
			mustFail(t, x.name, misfit, e, x.want)
		}
	}
	flat := pairsOf(4, 3, 6, 3)
	for _, x := range badLines() {
		for _, l := range [][]api.SensorPair{examplePairs(), flat} {
			index, e := sensor.CheckCalibration(l, x.x)
			mustFail(t, x.x, index, e, x.want)
			misfit, e := sensor.MisfitOf(l, x.x)
			mustFail(t, x.x, misfit, e, x.want)
		}
	}
	for _, l := range [][]api.SensorPair{flat, pairsOf(1, 0), pairsOf(0, 0, 1, 0, 2, 0), pairsOf(1000, -1000)} {
		is, e := sensor.CalibrationOf(l)
		mustFail(t, l, is, e, api.ErrZero)
	}
}

// P7.1: each sum has its own index.
func TestSums(t *testing.T) {
	l := examplePairs()
	for _, x := range []struct {
		name  string
		l     []api.SensorPair
		x     api.SensorLine
		index int
		want  api.Errno
	}{
		{"both sums", l, line(1, 0, 1), 0, api.ErrProof},
		{"the first sum", l, line(25, -14, 2), 0, api.ErrProof},
		{"the first sum alone", pairsOf(1, 2, 1, 2, 0, -4), line(0, 0, 1), 0, api.ErrProof},
		{"the second sum", l, line(10, 0, 1), 1, api.ErrProof},
		{"the second sum, a level line", l, line(0, 30, 1), 1, api.ErrProof},
		{"another Den", l, line(25, -15, 4), 0, api.ErrProof},
		{"the opposite gain", pairsOf(2, 1, -2, -1), line(-2, 0, 1), 1, api.ErrProof},
		{"one raw sample, both sums 0", pairsOf(4, 3, 6, 3), line(0, 5, 1), 0, api.ErrZero},
		{"one raw sample, another line", pairsOf(4, 3, 6, 3), line(1, 2, 1), 0, api.ErrZero},
		{"one raw sample, the first sum", pairsOf(4, 3, 6, 3), line(1, 3, 1), 0, api.ErrProof},
		{"one pair", pairsOf(4, 0), line(9, 4, 1), 0, api.ErrZero},
		{"the greatest line", pairsOf(-1000, 1000, -1000, 1000, -1000, 1000), line(api.MaxSensorNumber, api.MaxSensorNumber-1, api.MaxSensorNumber), 0, api.ErrProof},
	} {
		index, e := sensor.CheckCalibration(x.l, x.x)
		mustBe(t, x.name, index, e, x.index, x.want)
	}
}

// sumsByHand returns both sums of a line.
func sumsByHand(l []api.SensorPair, x api.SensorLine) (first, second *big.Int) {
	first, second = new(big.Int), new(big.Int)
	for _, pair := range l {
		rest := new(big.Int).Mul(big.NewInt(int64(x.Gain)), big.NewInt(int64(pair.Raw)))
		rest.Add(rest, big.NewInt(int64(x.Offset)))
		rest.Sub(rest, new(big.Int).Mul(big.NewInt(int64(x.Den)), big.NewInt(int64(pair.Known))))
		first.Add(first, rest)
		second.Add(second, new(big.Int).Mul(rest, big.NewInt(int64(pair.Raw))))
	}
	return first, second
}

// P7.1: the sums of the greatest lines are exact.
func TestGreatSums(t *testing.T) {
	const most = api.MaxSensorNumber
	random := fixedRandom()
	for range 2000 {
		l := somePairs(random)
		if random.IntN(3) == 0 {
			for i := range l {
				l[i] = api.SensorPair{Known: []int{-1000, 1000}[random.IntN(2)], Raw: []int{-1000, 1000}[random.IntN(2)]}
			}
		}
		x := line([]int{-most, most - 1, most, 0}[random.IntN(4)], []int{-most, most, 1, 0}[random.IntN(4)], []int{1, most, most - 1}[random.IntN(3)])
		if sensor.CheckLine(x) != api.OK {
			x = someLine(random, most)
		}
		want, wantError := 0, api.ErrProof
		first, second := sumsByHand(l, x)
		switch {
		case first.Sign() == 0 && second.Sign() == 0:
			continue
		case first.Sign() == 0:
			want = 1
		}
		index, e := sensor.CheckCalibration(l, x)
		mustBe(t, x, index, e, want, wantError)
	}
}

// P7.1: the limit of misfits.
func TestMisfits(t *testing.T) {
	const most = 10000
	one := pairsOf(1, 1)
	for _, x := range []struct {
		l    []api.SensorPair
		x    api.SensorLine
		want api.Frac
	}{
		{one, line(most, 0, 1), frac(9999*9999, 1)},
		{one, line(-most, 0, 1), frac(10001*10001, 1)},
		{one, line(0, most, 1), frac(9999*9999, 1)},
		{one, line(0, -most, 1), frac(10001*10001, 1)},
		{one, line(1, 0, most), frac(9999*9999, most*most)},
		{one, line(1, most-1, most), frac(0, 1)},
		{one, line(2, 2, 3), frac(1, 9)},
		{one, line(3, 3, 4), frac(1, 4)},
		{pairsOf(5, 3, 7, 3), line(0, 6, 1), frac(2, 1)},
		{pairsOf(0, 1, 0, 1), line(1, 0, 2), frac(1, 2)},
		{pairsOf(-1000, 1000, -1000, 1000), line(most, most, 1), frac(2*10011000*10011000, 1)},
	} {
		is, e := sensor.MisfitOf(x.l, x.x)
		mustBe(t, x.x, is, e, x.want, api.OK)
	}
	for _, x := range []api.SensorLine{line(most+1, 0, 1), line(-most-1, 0, 1), line(0, most+1, 1), line(0, -most-1, 1), line(1, 0, most+1)} {
		is, e := sensor.MisfitOf(one, x)
		mustFail(t, x, is, e, api.ErrLarge)
	}
}

// misfitByHand returns the misfit of a line as it is defined.
func misfitByHand(l []api.SensorPair, x api.SensorLine) *big.Rat {
	sum := new(big.Rat)
	for _, pair := range l {
		rest := big.NewRat(int64(x.Gain*pair.Raw+x.Offset), int64(x.Den))
		rest.Sub(rest, big.NewRat(int64(pair.Known), 1))
		sum.Add(sum, rest.Mul(rest, rest))
	}
	return sum
}

// P7.1, P7.7: the calibration has both sums 0, is accepted, and no other line is; no line is nearer.
func TestCalibrationsByHand(t *testing.T) {
	random := fixedRandom()
	for range 400 {
		l := somePairs(random)
		x, e := sensor.CalibrationOf(l)
		if e != api.OK || sensor.CheckLine(x) != api.OK {
			t.Fatal(l, x, e)
		}
		if first, second := sumsByHand(l, x); first.Sign() != 0 || second.Sign() != 0 {
			t.Error(l, x, first, second)
		}
		index, e := sensor.CheckCalibration(l, x)
		mustBe(t, l, index, e, 0, api.OK)
		least := misfitByHand(l, x)
		if misfit, e := sensor.MisfitOf(l, x); e != api.ErrLarge {
			mustBe(t, l, misfit, e, fracOf(least), api.OK)
		}
		for range 20 {
			other := someLine(random, []int{3, 100, 10000}[random.IntN(3)])
			misfit, e := sensor.MisfitOf(l, other)
			byHand := misfitByHand(l, other)
			mustBe(t, l, misfit, e, fracOf(byHand), api.OK)
			if other != x && byHand.Cmp(least) <= 0 {
				t.Error(l, x, "is not as near as", other)
			}
			if _, e := sensor.CheckCalibration(l, other); (e == api.OK) != (other == x) {
				t.Error(l, other, e)
			}
		}
		for _, other := range []api.SensorLine{line(x.Gain+1, x.Offset, x.Den), line(x.Gain, x.Offset-1, x.Den), line(x.Gain, x.Offset, x.Den+1)} {
			if index, e := sensor.CheckCalibration(l, other); e == api.OK {
				t.Error(l, other, index)
			}
		}
	}
}

// P7.7: pairs on a line with whole numbers have this line.
func TestPairsOnALine(t *testing.T) {
	random := fixedRandom()
	for range 300 {
		want := line(within(random, 30), within(random, 100), 1)
		l := pairsOf(want.Offset, 0)
		for len(l) < 2+random.IntN(9) {
			raw := 1 + len(l)*random.IntN(3)
			l = append(l, api.SensorPair{Known: want.Gain*raw + want.Offset, Raw: raw})
		}
		x, e := sensor.CalibrationOf(l)
		mustBe(t, l, x, e, want, api.OK)
		misfit, e := sensor.MisfitOf(l, x)
		mustBe(t, l, misfit, e, frac(0, 1), api.OK)
	}
}

// P7.1, example 2 and edge cases
func TestCorrected(t *testing.T) {
	const most, raw = api.MaxSensorNumber, api.MaxSensorRaw
	for _, x := range []struct {
		name   string
		x      api.SensorLine
		raw    []int
		want   api.SensorValues
		ranges []api.Range
	}{
		{"example", line(25, -15, 2), []int{1, 2, 3}, values(2, 10, 35, 60), list(to(-8, 18), to(5, 30), to(17, 43))},
		{"downwards", line(-25, -15, 2), []int{1, 2, 3}, values(2, -40, -65, -90), list(to(-33, -7), to(-45, -20), to(-58, -32))},
		{"in lowest terms", line(25, -15, 2), []int{1, 3}, values(1, 5, 30), list(to(-8, 18), to(17, 43))},
		{"partly in lowest terms", line(3, 3, 4), []int{1, 3, 5}, values(2, 3, 6, 9), list(to(0, 3), to(2, 4), to(3, 6))},
		{"one sample", line(6, 10, 15), []int{0}, values(3, 2), list(to(0, 2))},
		{"all 0", line(1, 0, 7), []int{0, 0}, values(1, 0, 0), list(to(-1, 1), to(-1, 1))},
		{"0 and more", line(1, 0, 7), []int{0, 14, 21}, values(1, 0, 2, 3), list(to(-1, 1), to(1, 3), to(2, 4))},
		{"the gain 0", line(0, 7, 1), []int{-5, 0, 5}, values(1, 7, 7, 7), list(to(7, 7), to(7, 7), to(7, 7))},
		{"the gain 0, a fraction", line(0, -7, 2), []int{-5, 0}, values(2, -7, -7), list(to(-4, -3), to(-4, -3))},
		{"as they are", line(1, 0, 1), []int{-2, 0, 3}, values(1, -2, 0, 3), list(to(-3, -1), to(-1, 1), to(2, 4))},
		{"whole ends", line(1, 1, 2), []int{2, 3, -2}, values(2, 3, 4, -1), list(to(1, 2), to(1, 3), to(-1, 0))},
		{"the greatest numbers", line(most, most, 1), []int{raw, -raw}, values(1, most*(raw+1), -most*(raw-1)), list(to(most*raw, most*(raw+2)), to(-most*raw, -most*(raw-2)))},
		{"the greatest Den", line(1, 0, most), []int{raw, -1}, values(most, raw, -1), list(to(0, 1), to(-1, 0))},
	} {
		is, e := sensor.CorrectedOf(x.x, x.raw)
		mustBe(t, x.name, is, e, x.want, api.OK)
		ranges, e := sensor.RangesIn(x.x, x.raw)
		mustBe(t, x.name, ranges, e, x.ranges, api.OK)
	}
}

// P7.1: errors of lines come before those of raw samples.
func TestCorrectedErrors(t *testing.T) {
	check := func(name any, x api.SensorLine, raw []int, want api.Errno) {
		t.Helper()
		is, e := sensor.CorrectedOf(x, raw)
		mustFail(t, name, is, e, want)
		ranges, e := sensor.RangesIn(x, raw)
		mustFail(t, name, ranges, e, want)
	}
	for _, x := range badLines() {
		check(x.x, x.x, []int{1}, x.want)
		for _, raw := range badRaws() {
			check(x.x, x.x, raw.raw, x.want)
		}
	}
	for _, x := range badRaws() {
		check(x.name, line(25, -15, 2), x.raw, x.want)
	}
}

// valueByHand returns the value of a raw sample.
func valueByHand(x api.SensorLine, raw int) *big.Rat {
	return big.NewRat(int64(x.Gain*raw+x.Offset), int64(x.Den))
}

// isRounded tells whether a range is that of some values.
func isRounded(r api.Range, values ...*big.Rat) bool {
	within, isLowNear, isHighNear := true, false, false
	lo, hi := big.NewRat(int64(r.Lo), 1), big.NewRat(int64(r.Hi), 1)
	next := func(x *big.Rat, by int64) *big.Rat { return new(big.Rat).Add(x, big.NewRat(by, 1)) }
	for _, v := range values {
		within = within && lo.Cmp(v) <= 0 && v.Cmp(hi) <= 0
		isLowNear = isLowNear || v.Cmp(next(lo, 1)) < 0
		isHighNear = isHighNear || v.Cmp(next(hi, -1)) > 0
	}
	return within && isLowNear && isHighNear
}

// P7.1, P7.8: values and ranges follow from the line, and each value lies in its range.
func TestCorrectedByHand(t *testing.T) {
	random := fixedRandom()
	lines := goodLines()
	for range 300 {
		lines = append(lines, someLine(random, []int{4, 60, 5000}[random.IntN(3)]))
	}
	for _, x := range lines {
		raw := someRaw(random, 1+random.IntN(api.MaxSensorSamples), []int{5, api.MaxSensorRaw}[random.IntN(2)])
		is, e := sensor.CorrectedOf(x, raw)
		ranges, rangesError := sensor.RangesIn(x, raw)
		if e != api.OK || rangesError != api.OK || len(is.Parts) != len(raw) || len(ranges) != len(raw) || is.Den < 1 {
			t.Fatal(x, raw, is, e, ranges, rangesError)
		}
		divisor := big.NewInt(int64(is.Den))
		for i, sample := range raw {
			part := big.NewInt(int64(is.Parts[i]))
			divisor.GCD(nil, nil, divisor, part.Abs(part))
			value := valueByHand(x, sample)
			if value.Cmp(big.NewRat(int64(is.Parts[i]), int64(is.Den))) != 0 {
				t.Error(x, sample, is)
			}
			if !isRounded(ranges[i], value, valueByHand(x, sample-1), valueByHand(x, sample+1)) {
				t.Error(x, sample, ranges[i])
			}
		}
		if divisor.Cmp(big.NewInt(1)) != 0 {
			t.Error(x, raw, is, divisor)
		}
	}
}

// P7.8: corrected raw samples of a calibration add up to as much as the known values.
func TestCorrectedSums(t *testing.T) {
	random := fixedRandom()
	for range 300 {
		l := somePairs(random)
		x, e := sensor.CalibrationOf(l)
		if e != api.OK {
			t.Fatal(l, e)
		}
		var raw []int
		known := 0
		for _, pair := range l {
			raw = append(raw, pair.Raw)
			known += pair.Known
		}
		is, e := sensor.CorrectedOf(x, raw)
		sum := 0
		for _, part := range is.Parts {
			sum += part
		}
		if e != api.OK || sum != known*is.Den {
			t.Error(l, x, is, e)
		}
	}
}
