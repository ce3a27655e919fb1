package drive_test

import (
	"math"
	"math/big"
	"math/rand/v2"
	"slices"
	"testing"

	"ductility/api"
	"ductility/drive"
)

// P4.3
func TestCheckRig(t *testing.T) {
	for _, x := range badRigs() {
		if e := drive.CheckRig(x.r); e != x.want {
			t.Error(x.name, e)
		}
	}
	for _, gain := range []api.Frac{{Num: 0, Den: 1}, {Num: 1, Den: 1}, {Num: 1, Den: 100}, {Num: 99, Den: 100}} {
		for _, step := range []int{0, 1, api.MaxDriveStep} {
			r := exampleRig()
			r.Gain, r.Step = gain, step
			if e := drive.CheckRig(r); e != api.OK {
				t.Error(gain, step, e)
			}
		}
	}
	for _, m := range goodMatrices() {
		r := exampleRig()
		r.Plant, r.Model = m, m
		want := api.OK
		if d, _ := drive.DeterminantOf(m); d == (api.Gauss{}) {
			want = api.ErrZero
		}
		if e := drive.CheckRig(r); e != want {
			t.Error(m, e)
		}
	}
}

// P4.3: a rig with an error has it in all functions, before the errors of further arguments.
func TestRigErrors(t *testing.T) {
	far := listOf(slices.Repeat([]int{10001, 0}, 4)...)
	for _, x := range badRigs() {
		if l, e := drive.CorrectionOf(x.r, far, far); len(l) != 0 || e != x.want {
			t.Error("CorrectionOf", x.name, l, e)
		}
		if l, e := drive.RoundsOf(x.r, far, far, -1); len(l) != 0 || e != x.want {
			t.Error("RoundsOf", x.name, l, e)
		}
		if n, e := drive.ReachedIn(x.r, far, far, -1); n != 0 || e != x.want {
			t.Error("ReachedIn", x.name, n, e)
		}
		if f, e := drive.ContractionOf(x.r); f != (api.Frac{}) || e != x.want {
			t.Error("ContractionOf", x.name, f, e)
		}
	}
}

// twoRig returns a rig of two rows.
func twoRig() api.DriveRig {
	return api.DriveRig{Plant: exampleMatrix(), Model: exampleMatrix(), Gain: api.Frac{Num: 1, Den: 1}, Step: 1000}
}

// P4.3: the target is looked at before the drive, and both before a number.
func TestListErrors(t *testing.T) {
	r, good := twoRig(), listOf(0, 0, 0, 0)
	for _, x := range badLists() {
		for _, lists := range [][2][]api.Gauss{{x.list, good}, {good, x.list}} {
			if l, e := drive.CorrectionOf(r, lists[0], lists[1]); len(l) != 0 || e != x.want {
				t.Error("CorrectionOf", x.name, l, e)
			}
			if l, e := drive.RoundsOf(r, lists[0], lists[1], 21); len(l) != 0 || e != x.want {
				t.Error("RoundsOf", x.name, l, e)
			}
			if n, e := drive.ReachedIn(r, lists[0], lists[1], -1); n != 0 || e != x.want {
				t.Error("ReachedIn", x.name, n, e)
			}
		}
	}
	short, far := listOf(0, 0), listOf(0, 0, 0, 10001)
	for _, x := range []struct {
		target, drive []api.Gauss
		want          api.Errno
	}{{short, far, api.ErrShape}, {far, short, api.ErrRange}} {
		if l, e := drive.CorrectionOf(r, x.target, x.drive); len(l) != 0 || e != x.want {
			t.Error(x.target, x.drive, l, e)
		}
	}
	for _, rounds := range []int{-1, 21, math.MinInt, math.MaxInt} {
		if l, e := drive.RoundsOf(r, good, good, rounds); len(l) != 0 || e != api.ErrRange {
			t.Error(rounds, l, e)
		}
	}
	for _, within := range []int{-1, 10001, math.MinInt, math.MaxInt} {
		if n, e := drive.ReachedIn(r, good, good, within); n != 0 || e != api.ErrRange {
			t.Error(within, n, e)
		}
	}
}

// P4.3, examples 4 and 5
func TestCorrection(t *testing.T) {
	example := exampleRig()
	turned := api.DriveRig{Plant: rowsOf(1, 0, 1), Model: rowsOf(1, 1, 0), Gain: api.Frac{Num: 1, Den: 2}, Step: 9}
	for _, x := range []struct {
		name          string
		r             api.DriveRig
		target, drive []api.Gauss
		want          []api.Gauss
	}{
		{"example 4: limited", example, listOf(10, 0), listOf(0, 0), listOf(3, 0)},
		{"limited, below 0 and imaginary", example, listOf(-10, -10), listOf(0, 0), listOf(-3, -3)},
		{"limited in one part", example, listOf(2, 10), listOf(0, 0), listOf(1, 3)},
		{"reached", example, listOf(10, 0), listOf(5, 0), listOf(0, 0)},
		{"back", example, listOf(10, 0), listOf(6, 0), listOf(-1, 0)},
		{"example 5", turned, listOf(3, 0), listOf(0, 0), listOf(1, 0)},
		{"example 5, below 0", turned, listOf(-3, 0), listOf(0, 0), listOf(-1, 0)},
		{"halves towards 0", turned, listOf(5, -5), listOf(0, 0), listOf(2, -2)},
		{"one half", turned, listOf(1, -1), listOf(0, 0), listOf(0, 0)},
		{"by the response", turned, listOf(0, 0), listOf(8, 0), listOf(0, -4)},
	} {
		if l, e := drive.CorrectionOf(x.r, x.target, x.drive); !slices.Equal(l, x.want) || e != api.OK {
			t.Error(x.name, l, e)
		}
	}
	third := turned
	third.Gain = api.Frac{Num: 1, Den: 3}
	for target, want := range map[int]int{1: 0, 2: 1, 4: 1, 5: 2, -1: 0, -2: -1, -4: -1, -5: -2} {
		if l, e := drive.CorrectionOf(third, listOf(target, target), listOf(0, 0)); !slices.Equal(l, listOf(want, want)) || e != api.OK {
			t.Error("thirds", target, l, e)
		}
	}
	// The inverse stands before the target: the other way it would be another one.
	r := twoRig()
	r.Plant = rowsOf(2, make([]int, 8)...)
	if l, e := drive.CorrectionOf(r, listOf(4, 0, 8, 0), listOf(0, 0, 0, 0)); !slices.Equal(l, listOf(4, -4, 4, 0)) || e != api.OK {
		t.Error("two rows", l, e)
	}
}

// P4.3, example 4
func TestRounds(t *testing.T) {
	r, target, start := exampleRig(), listOf(10, 0), listOf(0, 0)
	if l, e := drive.RoundsOf(r, target, start, 3); !same(l, rowsOf(1, 3, 0, 5, 0, 5, 0)) || e != api.OK {
		t.Error(l, e)
	}
	if l, e := drive.RoundsOf(r, target, start, 0); len(l) != 0 || e != api.OK {
		t.Error("no rounds", l, e)
	}
	if l, e := drive.RoundsOf(r, target, start, 20); len(l) != 20 || !same(l[19:], rowsOf(1, 5, 0)) || e != api.OK {
		t.Error("20 rounds", l, e)
	}
	for _, x := range []struct{ within, want int }{{0, 2}, {3, 2}, {4, 1}, {9, 1}, {10, 0}, {10000, 0}} {
		if n, e := drive.ReachedIn(r, target, start, x.within); n != x.want || e != api.OK {
			t.Error("within", x, n, e)
		}
	}
	if n, e := drive.ReachedIn(r, target, listOf(5, 0), 0); n != 0 || e != api.OK {
		t.Error("by the drive itself", n, e)
	}
	if n, e := drive.ReachedIn(r, listOf(0, 10), start, 0); n != 2 || e != api.OK {
		t.Error("imaginary", n, e)
	}
	if n, e := drive.ReachedIn(r, listOf(10, 4), start, 3); n != 2 || e != api.OK {
		t.Error("both parts", n, e)
	}
}

// farRig returns a rig of which each round adds the step to a drive, for targets above 0.
func farRig() api.DriveRig {
	return api.DriveRig{Plant: rowsOf(1, 0, 0), Model: rowsOf(1, 1, 0), Gain: api.Frac{Num: 1, Den: 1}, Step: 1000}
}

// P4.3: ErrBreak comes before the rounds are over, and not later than in the round with such a drive.
func TestBreak(t *testing.T) {
	r, target := farRig(), listOf(0, -9000)
	if l, e := drive.RoundsOf(r, target, listOf(0, 0), 10); len(l) != 10 || l[9][0] != (api.Gauss{Im: -10000}) || e != api.OK {
		t.Error("the greatest", l, e)
	}
	if l, e := drive.RoundsOf(r, target, listOf(0, 0), 11); len(l) != 0 || e != api.ErrBreak {
		t.Error("imaginary", l, e)
	}
	if l, e := drive.RoundsOf(r, listOf(9000, 0), listOf(9500, 0), 1); len(l) != 0 || e != api.ErrBreak {
		t.Error("real", l, e)
	}
	if l, e := drive.RoundsOf(r, listOf(9000, 0), listOf(9500, 0), 0); len(l) != 0 || e != api.OK {
		t.Error("no rounds", l, e)
	}
	if n, e := drive.ReachedIn(r, target, listOf(0, 0), 8999); n != 0 || e != api.ErrBreak {
		t.Error("not reached", n, e)
	}
	if n, e := drive.ReachedIn(r, target, listOf(0, 0), 9000); n != 0 || e != api.OK {
		t.Error("reached at once", n, e)
	}
	r.Step = 500
	if n, e := drive.ReachedIn(r, target, listOf(0, 0), 8999); n != 0 || e != api.ErrNone {
		t.Error("not reached in 20 rounds, and no further round", n, e)
	}
	if n, e := drive.ReachedIn(r, target, listOf(0, -1), 8999); n != 0 || e != api.ErrBreak {
		t.Error("broken in the last round", n, e)
	}
}

// P4.3: the drive of a round that is too great is an error even if the target is reached by it.
func TestBreakBeforeReached(t *testing.T) {
	// The response is how much further the first drive is than the second one; corrections go to the first one.
	r := api.DriveRig{Plant: rowsOf(2, 1, 0, -1, 0, 0, 0, 0, 0), Model: rowsOf(2, 1, 0, 0, 0, 0, 0, 1, 0), Gain: api.Frac{Num: 1, Den: 1}, Step: 10}
	target := listOf(2, 0, 0, 0)
	if n, e := drive.ReachedIn(r, target, listOf(9999, 0, 9999, 0), 0); n != 0 || e != api.ErrBreak {
		t.Error(n, e)
	}
	if n, e := drive.ReachedIn(r, target, listOf(9998, 0, 9998, 0), 0); n != 1 || e != api.OK {
		t.Error(n, e)
	}
}

// P4.3, examples 4 and 5
func TestContraction(t *testing.T) {
	for _, x := range []struct {
		name string
		r    api.DriveRig
		want api.Frac
	}{
		{"example 4", exampleRig(), api.Frac{Den: 1}},
		{"example 5", api.DriveRig{Plant: rowsOf(1, 0, 1), Model: rowsOf(1, 1, 0), Gain: api.Frac{Num: 1, Den: 2}, Step: 9}, api.Frac{Num: 3, Den: 2}},
		{"gain 0", api.DriveRig{Plant: widestMatrix(), Model: widestMatrix(), Gain: api.Frac{Den: 1}}, api.Frac{Num: 1, Den: 1}},
		{"the model", api.DriveRig{Plant: widestMatrix(), Model: widestMatrix(), Gain: api.Frac{Num: 1, Den: 1}}, api.Frac{Den: 1}},
		{"the model, half", api.DriveRig{Plant: exampleMatrix(), Model: exampleMatrix(), Gain: api.Frac{Num: 1, Den: 2}}, api.Frac{Num: 1, Den: 2}},
		{"the worst row", api.DriveRig{Plant: rowsOf(2, 1, 0, 0, 0, 3, 0, 1, 0), Model: rowsOf(2, 1, 0, 0, 0, 0, 0, 1, 0), Gain: api.Frac{Num: 1, Den: 3}}, api.Frac{Num: 5, Den: 3}},
		{"the plant before the inverse", api.DriveRig{Plant: rowsOf(2, 0, 0, 1, 0, 0, 0, 0, 0), Model: rowsOf(2, 2, 0, 0, 0, 0, 0, 1, 0), Gain: api.Frac{Num: 1, Den: 1}}, api.Frac{Num: 2, Den: 1}},
	} {
		if f, e := drive.ContractionOf(x.r); f != x.want || e != api.OK {
			t.Error(x.name, f, e)
		}
	}
	large := api.DriveRig{
		Plant: rowsOf(3, 20, 0, 19, 0, 18, 0, 17, 0, 16, 0, 15, 0, 14, 0, 13, 0, 12, 0),
		Model: rowsOf(3, 20, 19, 17, -18, 13, 20, 19, 20, 3, 7, 11, 2, -5, 19, 20, 1, 17, 17),
		Gain:  api.Frac{Num: 97, Den: 99},
	}
	if f, e := drive.ContractionOf(large); f != (api.Frac{}) || e != api.ErrLarge {
		t.Error(f, e)
	}
}

// nearestByHand returns the nearest whole number, halves towards 0.
func nearestByHand(q *big.Rat) int {
	size := new(big.Rat).Abs(q)
	down := new(big.Int).Quo(size.Num(), size.Denom())
	rest := size.Sub(size, new(big.Rat).SetInt(down))
	if rest.Cmp(big.NewRat(1, 2)) > 0 {
		down.Add(down, big.NewInt(1))
	}
	return int(down.Int64()) * q.Sign()
}

// correctionByHand returns a correction, and whether one of its parts was limited.
func correctionByHand(r api.DriveRig, target, list []api.Gauss) ([]api.Gauss, bool) {
	inverse, _ := inverseByHand(numbersOf(r.Model))
	response := appliedByHand(numbersOf(r.Plant), columnOf(list))
	var missing []number
	for i, x := range columnOf(target) {
		missing = append(missing, x.minus(response[i]))
	}
	gain := number{big.NewRat(int64(r.Gain.Num), int64(r.Gain.Den)), new(big.Rat)}
	var correction []api.Gauss
	isLimited := false
	for _, x := range appliedByHand(inverse, missing) {
		x = x.times(gain)
		re, im := nearestByHand(x.re), nearestByHand(x.im)
		isLimited = isLimited || max(re, -re, im, -im) > r.Step
		correction = append(correction, api.Gauss{Re: max(-r.Step, min(r.Step, re)), Im: max(-r.Step, min(r.Step, im))})
	}
	return correction, isLimited
}

// someLevels returns a drive or a target; some are small.
func someLevels(random *rand.Rand, count int) []api.Gauss {
	size := []int{3, 100, api.MaxDriveLevel}[random.IntN(3)]
	return someList(random, count, size)
}

// P4.3, P4.8
func TestCorrectionByHand(t *testing.T) {
	random := fixedRandom()
	for range 500 {
		r := someRig(random)
		target, list := someLevels(random, len(r.Plant)), someLevels(random, len(r.Plant))
		want, _ := correctionByHand(r, target, list)
		l, e := drive.CorrectionOf(r, target, list)
		if e != api.OK || !slices.Equal(l, want) {
			t.Fatal(r, target, list, l, want, e)
		}
		for _, x := range l {
			if max(x.Re, -x.Re, x.Im, -x.Im) > r.Step {
				t.Fatal(r, target, list, l)
			}
		}
	}
}

// P4.3: the greatest numbers are rounded right, too.
func TestGreatCorrections(t *testing.T) {
	random := fixedRandom()
	for range 300 {
		size := 1 + random.IntN(api.MaxDriveSize)
		r := api.DriveRig{Plant: someRows(random, size, size, 20), Model: someSolid(random, size), Gain: api.Frac{Num: 99, Den: 100}, Step: api.MaxDriveStep}
		target, list := someList(random, size, 10000), someList(random, size, 10000)
		want, _ := correctionByHand(r, target, list)
		if l, e := drive.CorrectionOf(r, target, list); e != api.OK || !slices.Equal(l, want) {
			t.Fatal(r, target, list, l, want, e)
		}
	}
}

// P4.3: rounds are corrections, one after the other.
func TestRoundsByHand(t *testing.T) {
	random := fixedRandom()
	found := map[api.Errno]int{}
	for range 150 {
		r := someRig(random)
		r.Plant = r.Model
		if random.IntN(2) == 0 {
			r.Plant = someRows(random, len(r.Model), len(r.Model), 3)
		}
		target, start := someLevels(random, len(r.Plant)), someLevels(random, len(r.Plant))
		rounds, within := random.IntN(api.MaxDriveRounds+1), random.IntN(50)
		drives, want := roundsByHand(r, target, start, rounds)
		if want != api.OK {
			drives = nil
		}
		l, e := drive.RoundsOf(r, target, start, rounds)
		found[e]++
		if e != want || !same(l, drives) {
			t.Fatal(r, target, start, rounds, l, e)
		}
		number, want := reachedByHand(r, target, start, within)
		n, e := drive.ReachedIn(r, target, start, within)
		found[e]++
		if n != number || e != want {
			t.Fatal(r, target, start, within, n, e)
		}
	}
	for _, e := range []api.Errno{api.OK, api.ErrBreak, api.ErrNone} {
		if found[e] == 0 {
			t.Error(found)
		}
	}
}

// roundsByHand returns the drives of rounds, and ErrBreak with those before the first one that is too great.
func roundsByHand(r api.DriveRig, target, list []api.Gauss, rounds int) ([][]api.Gauss, api.Errno) {
	var drives [][]api.Gauss
	for range rounds {
		correction, _ := correctionByHand(r, target, list)
		for i, x := range list {
			correction[i] = api.Gauss{Re: correction[i].Re + x.Re, Im: correction[i].Im + x.Im}
		}
		list = correction
		if mostOf(list) > api.MaxDriveLevel {
			return drives, api.ErrBreak
		}
		drives = append(drives, list)
	}
	return drives, api.OK
}

// mostOf returns the size of the greatest part.
func mostOf(list []api.Gauss) int {
	most := 0
	for _, x := range list {
		most = max(most, x.Re, -x.Re, x.Im, -x.Im)
	}
	return most
}

// leftOf returns a target minus the response to a drive.
func leftOf(r api.DriveRig, target, list []api.Gauss) []api.Gauss {
	var left []api.Gauss
	response, _ := drive.ResponseOf(r.Plant, list)
	for i, x := range response {
		left = append(left, api.Gauss{Re: target[i].Re - x.Re, Im: target[i].Im - x.Im})
	}
	return left
}

// reachedByHand looks at the drives of all rounds.
func reachedByHand(r api.DriveRig, target, start []api.Gauss, within int) (int, api.Errno) {
	drives, e := roundsByHand(r, target, start, api.MaxDriveRounds)
	n := slices.IndexFunc(append([][]api.Gauss{start}, drives...), func(list []api.Gauss) bool {
		return mostOf(leftOf(r, target, list)) <= within
	})
	if n >= 0 {
		return n, api.OK
	}
	if e != api.OK {
		return 0, e
	}
	return 0, api.ErrNone
}

// P4.8
func TestNothingChanges(t *testing.T) {
	random := fixedRandom()
	for range 200 {
		r := someRig(random)
		size := len(r.Plant)
		target, start := someLevels(random, size), someLevels(random, size)
		still := slices.Repeat([][]api.Gauss{start}, 3)
		for _, x := range []api.DriveRig{
			{Plant: r.Plant, Model: r.Model, Gain: api.Frac{Den: 1}, Step: r.Step},
			{Plant: r.Plant, Model: r.Model, Gain: r.Gain},
		} {
			if l, e := drive.RoundsOf(x, target, start, 3); !same(l, still) || e != api.OK {
				t.Fatal(x, target, start, l, e)
			}
		}
		small := someList(random, size, 100)
		response, _ := drive.ResponseOf(r.Plant, small)
		if mostOf(response) > api.MaxDriveLevel {
			continue
		}
		if l, e := drive.CorrectionOf(r, response, small); !slices.Equal(l, make([]api.Gauss, size)) || e != api.OK {
			t.Fatal(r, small, l, e)
		}
		if n, e := drive.ReachedIn(r, response, small, 0); n != 0 || e != api.OK {
			t.Fatal(r, small, n, e)
		}
	}
}

// P4.3
func TestContractionByHand(t *testing.T) {
	random := fixedRandom()
	found := map[api.Errno]int{}
	for range 300 {
		r := someRig(random)
		f, e := drive.ContractionOf(r)
		found[e]++
		want := contractionByHand(r)
		if isTooLarge(want) {
			if f != (api.Frac{}) || e != api.ErrLarge {
				t.Fatal(r, f, e)
			}
			continue
		}
		if e != api.OK || !isFraction(f, want) {
			t.Fatal(r, f, e)
		}
	}
	if found[api.OK] == 0 || found[api.ErrLarge] == 0 {
		t.Error(found)
	}
}

// contractionByHand returns the row sum of what a round leaves of an error.
func contractionByHand(r api.DriveRig) *big.Rat {
	inverse, _ := inverseByHand(numbersOf(r.Model))
	left := productByHand(numbersOf(r.Plant), inverse)
	gain := number{big.NewRat(int64(r.Gain.Num), int64(r.Gain.Den)), new(big.Rat)}
	for i, row := range left {
		for k, x := range row {
			one := api.Gauss{}
			if i == k {
				one.Re = 1
			}
			row[k] = numberOf(one).minus(x.times(gain))
		}
	}
	return rowSumByHand(left)
}

// normOf returns the norm of an error.
func normOf(list []api.Gauss) *big.Rat {
	most := new(big.Rat)
	for _, x := range list {
		if size := numberOf(x).size(); size.Cmp(most) > 0 {
			most = size
		}
	}
	return most
}

// P4.9
func TestErrorShrinks(t *testing.T) {
	random := fixedRandom()
	count := 0
	for range 600 {
		r := someRig(random)
		if random.IntN(2) == 0 {
			r.Model = copied(r.Plant)
			r.Model[0][0].Re = max(-20, r.Model[0][0].Re-1)
			if drive.CheckRig(r) != api.OK {
				continue
			}
		}
		target, start := someLevels(random, len(r.Plant)), someLevels(random, len(r.Plant))
		if _, isLimited := correctionByHand(r, target, start); isLimited {
			continue
		}
		l, e := drive.RoundsOf(r, target, start, 1)
		if e == api.ErrBreak {
			continue
		}
		count++
		bound := new(big.Rat).Mul(contractionByHand(r), normOf(leftOf(r, target, start)))
		bound.Add(bound, rowSumByHand(numbersOf(r.Plant)))
		if e != api.OK || normOf(leftOf(r, target, l[0])).Cmp(bound) > 0 {
			t.Fatal(r, target, start, l, e)
		}
		r.Plant, r.Gain = r.Model, api.Frac{Num: 1, Den: 1}
		if f, e := drive.ContractionOf(r); f != (api.Frac{Den: 1}) || e != api.OK {
			t.Fatal(r, f, e)
		}
	}
	if count < 50 {
		t.Error("too few corrections that are not limited", count)
	}
}
