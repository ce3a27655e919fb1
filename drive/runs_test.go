package drive_test

import (
	"math"
	"math/big"
	"slices"
	"testing"

	"ductility/api"
	"ductility/drive"
)

// P4.2, examples 2 and 3
func TestEstimate(t *testing.T) {
	inputs := rowsOf(1, 1, 0, 0, 1, 2, 0)
	for _, x := range []struct {
		name      string
		r         api.DriveRuns
		want      api.DriveQuotient
		coherence api.Frac
	}{
		{"example 2", api.DriveRuns{Inputs: inputs, Outputs: rowsOf(1, 2, 0, 0, 2, 4, 0)}, api.DriveQuotient{Den: 1, Rows: rowsOf(1, 2, 0)}, api.Frac{Num: 1, Den: 1}},
		{"example 3", exampleRuns(), api.DriveQuotient{Den: 3, Rows: rowsOf(1, 7, 0)}, api.Frac{Num: 98, Den: 99}},
		{"one run", api.DriveRuns{Inputs: rowsOf(1, 0, 2), Outputs: rowsOf(1, 1, 0)}, api.DriveQuotient{Den: 2, Rows: rowsOf(1, 0, -1)}, api.Frac{Num: 1, Den: 1}},
		{"nothing explained", api.DriveRuns{Inputs: rowsOf(1, 1, 0, 1, 0), Outputs: rowsOf(1, 3, 0, -3, 0)}, api.DriveQuotient{Den: 1, Rows: rowsOf(1, 0, 0)}, api.Frac{Den: 1}},
		{"outputs by the second input",
			api.DriveRuns{Inputs: rowsOf(2, 1, 0, 0, 0, 0, 0, 1, 0), Outputs: rowsOf(2, 0, 0, 0, 0, 0, 1, 0, 0)},
			api.DriveQuotient{Den: 1, Rows: rowsOf(2, 0, 0, 0, 1, 0, 0, 0, 0)}, api.Frac{Num: 1, Den: 1}},
	} {
		if q, e := drive.Estimated(x.r); !areSame(q, x.want) || e != api.OK {
			t.Error(x.name, q, e)
		}
		if i, e := drive.CheckEstimate(x.r, x.want); i != 0 || e != api.OK {
			t.Error(x.name, i, e)
		}
		if f, e := drive.CoherenceOf(x.r, 0); f != x.coherence || e != api.OK {
			t.Error(x.name, f, e)
		}
	}
}

// P4.2: runs with an error have it in all functions, before the errors of further arguments.
func TestRunsErrors(t *testing.T) {
	for _, x := range allBadRuns() {
		if q, e := drive.Estimated(x.r); !isNothing(q) || e != x.want {
			t.Error("Estimated", x.name, q, e)
		}
		if i, e := drive.CheckEstimate(x.r, api.DriveQuotient{}); i != 0 || e != x.want {
			t.Error("CheckEstimate", x.name, i, e)
		}
		if f, e := drive.CoherenceOf(x.r, -1); f != (api.Frac{}) || e != x.want {
			t.Error("CoherenceOf", x.name, f, e)
		}
	}
}

// P4.2: a bad run is found before a later one that is bad in another way.
func TestFirstBadRun(t *testing.T) {
	one, far, longer := listOf(1, 0), listOf(10, 0), listOf(1, 0, 1, 0)
	for _, x := range []struct {
		name            string
		inputs, outputs [][]api.Gauss
		want            api.Errno
	}{
		{"an output, then a shape", [][]api.Gauss{one, one, longer}, [][]api.Gauss{one, far, one}, api.ErrRange},
		{"a shape, then an output", [][]api.Gauss{one, longer, one}, [][]api.Gauss{one, one, far}, api.ErrShape},
		{"a shape of the outputs with a range of the inputs", [][]api.Gauss{one, far}, [][]api.Gauss{one, longer}, api.ErrShape},
	} {
		if _, e := drive.Estimated(api.DriveRuns{Inputs: x.inputs, Outputs: x.outputs}); e != x.want {
			t.Error(x.name, e)
		}
	}
}

// twoRuns returns two runs with two numbers each, whose estimate is the matrix m of the examples.
func twoRuns() api.DriveRuns {
	return api.DriveRuns{Inputs: rowsOf(2, 1, 0, 0, 0, 1, 0, 1, 0), Outputs: rowsOf(2, 1, 0, 0, 0, 1, 1, 2, 0)}
}

// P4.2
func TestWrongEstimate(t *testing.T) {
	m := exampleMatrix()
	if i, e := drive.CheckEstimate(twoRuns(), api.DriveQuotient{Den: 1, Rows: m}); i != 0 || e != api.OK {
		t.Error(i, e)
	}
	for _, x := range badQuotients() {
		if i, e := drive.CheckEstimate(twoRuns(), x.x); i != 0 || e != x.want {
			t.Error(x.name, i, e)
		}
	}
	const most = api.MaxDriveDen
	for _, x := range []struct {
		name  string
		x     api.DriveQuotient
		index int
	}{
		{"the first row", api.DriveQuotient{Den: 1, Rows: rowsOf(2, 1, 0, 0, 2, 0, 0, 2, 0)}, 0},
		{"the second row", api.DriveQuotient{Den: 1, Rows: rowsOf(2, 1, 0, 0, 1, 0, 1, 2, 0)}, 1},
		{"both rows", api.DriveQuotient{Den: 1, Rows: rowsOf(2, 0, 0, 0, 1, 1, 0, 2, 0)}, 0},
		{"another Den", api.DriveQuotient{Den: 2, Rows: m}, 0},
		{"the conjugate", api.DriveQuotient{Den: 1, Rows: rowsOf(2, 1, 0, 0, -1, 0, 0, 2, 0)}, 0},
		{"transposed", api.DriveQuotient{Den: 1, Rows: rowsOf(2, 1, 0, 0, 0, 0, 1, 2, 0)}, 0},
		{"greatest parts", api.DriveQuotient{Den: most - 1, Rows: rowsOf(2, slices.Repeat([]int{most, -most}, 4)...)}, 0},
	} {
		if i, e := drive.CheckEstimate(twoRuns(), x.x); i != x.index || e != api.ErrProof {
			t.Error(x.name, i, e)
		}
	}
}

// P4.2: the greatest numbers are compared exactly.
func TestGreatestEstimate(t *testing.T) {
	r := api.DriveRuns{Inputs: rowsOf(1, slices.Repeat([]int{9, 9}, 6)...), Outputs: rowsOf(1, slices.Repeat([]int{9, 9}, 6)...)}
	const most = api.MaxDriveDen
	if i, e := drive.CheckEstimate(r, api.DriveQuotient{Den: most, Rows: rowsOf(1, most-1, 0)}); i != 0 || e != api.ErrProof {
		t.Error(i, e)
	}
	if i, e := drive.CheckEstimate(r, api.DriveQuotient{Den: 1, Rows: rowsOf(1, 1, 0)}); i != 0 || e != api.OK {
		t.Error(i, e)
	}
}

// P4.2
func TestCoherenceErrors(t *testing.T) {
	for _, output := range []int{-1, 2, math.MinInt, math.MaxInt} {
		if f, e := drive.CoherenceOf(twoRuns(), output); f != (api.Frac{}) || e != api.ErrMissing {
			t.Error(output, f, e)
		}
	}
	silent := api.DriveRuns{Inputs: rowsOf(2, 1, 0, 0, 0, 1, 0, 1, 0), Outputs: rowsOf(2, 1, 0, 0, 0, 1, 1, 0, 0)}
	if f, e := drive.CoherenceOf(silent, 1); f != (api.Frac{}) || e != api.ErrNone {
		t.Error(f, e)
	}
	if f, e := drive.CoherenceOf(silent, 0); f != (api.Frac{Num: 1, Den: 1}) || e != api.OK {
		t.Error(f, e)
	}
	// The parts of a coherence are greater than fractions may have.
	large := api.DriveRuns{
		Inputs:  rowsOf(3, 9, 1, 2, 0, 3, 5, 1, 8, 8, -7, 4, 9, -3, 7, 7, 7, 9, -9, 5, -5, 1, 8, -8, 2, 9, 9, -9, 4, 1, 6, 3, 3, -8, 5, 9, 0),
		Outputs: rowsOf(3, 1, 9, 0, 0, 0, 0, 9, 5, 0, 0, 0, 0, 8, 3, 0, 0, 0, 0, -7, 5, 0, 0, 0, 0, 9, -4, 0, 0, 0, 0, 3, 7, 0, 0, 0, 0),
	}
	if f, e := drive.CoherenceOf(large, 0); f != (api.Frac{}) || e != api.ErrLarge {
		t.Error(f, e)
	}
	if f, e := drive.CoherenceOf(large, 1); f != (api.Frac{}) || e != api.ErrNone {
		t.Error(f, e)
	}
}

// P4.2, R11
func TestGreatestCoherence(t *testing.T) {
	most := api.DriveRuns{Inputs: rowsOf(3, 8, 5, 1, 2, -4, 2, 7, 2, 8, 5, -5, 5, 1, -2, 2, -4, -9, -9, 4, 2, -8, 0, -5, -4), Outputs: outputsOf(5, 2, 6, -2, 1, 7, 0, -9)}
	if f, e := drive.CoherenceOf(most, 1); f != (api.Frac{Num: 683594111, Den: api.MaxPart}) || e != api.OK {
		t.Error(f, e)
	}
	more := api.DriveRuns{Inputs: rowsOf(3, 9, -3, 8, 3, 6, 1, 5, -1, 3, 5, -9, -6, -1, -4, -6, -9, -9, -6, -8, -2, 1, -1, 6, 6), Outputs: outputsOf(-7, 6, -2, 4, -6, -8, -2, 0)}
	if f, e := drive.CoherenceOf(more, 1); f != (api.Frac{}) || e != api.ErrLarge {
		t.Error("515732015 of one more", f, e)
	}
}

// outputsOf returns the outputs of runs of three of which the second ones have parts, and the others are 0.
func outputsOf(parts ...int) [][]api.Gauss {
	var outputs [][]api.Gauss
	for _, x := range listOf(parts...) {
		outputs = append(outputs, []api.Gauss{{}, x, {}})
	}
	return outputs
}

// leftByHand returns for each output the sum of the squares that an estimate leaves.
func leftByHand(r api.DriveRuns, estimate [][]number) []*big.Rat {
	var left []*big.Rat
	for range estimate {
		left = append(left, new(big.Rat))
	}
	for i, inputs := range r.Inputs {
		for k, x := range appliedByHand(estimate, columnOf(inputs)) {
			left[k].Add(left[k], numberOf(r.Outputs[i][k]).minus(x).square())
		}
	}
	return left
}

// quotientsOf returns the numbers of a quotient.
func quotientsOf(q api.DriveQuotient) [][]number {
	rows := numbersOf(q.Rows)
	den := numberOf(api.Gauss{Re: q.Den})
	for _, row := range rows {
		for k, x := range row {
			row[k] = x.by(den)
		}
	}
	return rows
}

// P4.2: no other matrix leaves less than the estimate.
func TestEstimateLeavesLeast(t *testing.T) {
	random := fixedRandom()
	for range 200 {
		r := someRuns(random)
		q, e := drive.Estimated(r)
		estimate := quotientsOf(q)
		if e != api.OK || !areSame(q, lowestByHand(estimate)) {
			t.Fatal(r, q, e)
		}
		left := leftByHand(r, estimate)
		for i, row := range estimate {
			for k, x := range row {
				for _, part := range []api.Gauss{{Re: 1}, {Re: -1}, {Im: 1}, {Im: -1}} {
					row[k] = x.plus(numberOf(part).by(numberOf(api.Gauss{Re: 1000})))
					if leftByHand(r, estimate)[i].Cmp(left[i]) <= 0 {
						t.Fatal(r, q, i, k, part)
					}
				}
				row[k] = x
			}
		}
	}
}

// P4.7: CheckEstimate accepts Estimated, and nothing else.
func TestOnlyEstimates(t *testing.T) {
	random := fixedRandom()
	for range 200 {
		r := someRuns(random)
		q, _ := drive.Estimated(r)
		if i, e := drive.CheckEstimate(r, q); i != 0 || e != api.OK {
			t.Fatal(r, q, i, e)
		}
		mustRefuse(t, random, q, func(x api.DriveQuotient) api.Errno {
			_, e := drive.CheckEstimate(r, x)
			return e
		})
	}
}

// P4.2, P4.7: a coherence is what is not left, and lies from 0 to 1.
func TestCoherenceByHand(t *testing.T) {
	random := fixedRandom()
	found := map[api.Errno]int{}
	for range 400 {
		r := someRuns(random)
		q, _ := drive.Estimated(r)
		left := leftByHand(r, quotientsOf(q))
		for output := range q.Rows {
			all := new(big.Rat)
			for _, outputs := range r.Outputs {
				all.Add(all, numberOf(outputs[output]).square())
			}
			f, e := drive.CoherenceOf(r, output)
			found[e]++
			if all.Sign() == 0 {
				if f != (api.Frac{}) || e != api.ErrNone {
					t.Fatal(r, output, f, e)
				}
				continue
			}
			want := new(big.Rat).Quo(left[output], all)
			want.Sub(big.NewRat(1, 1), want)
			if isTooLarge(want) {
				if f != (api.Frac{}) || e != api.ErrLarge {
					t.Fatal(r, output, f, e)
				}
				continue
			}
			if e != api.OK || !isFraction(f, want) || f.Num < 0 || f.Num > f.Den {
				t.Fatal(r, output, f, e)
			}
		}
	}
	if found[api.OK] == 0 || found[api.ErrLarge] == 0 {
		t.Error(found)
	}
}

// P4.7
func TestOutputsOfAMatrix(t *testing.T) {
	random := fixedRandom()
	for range 300 {
		r := someRuns(random)
		size := len(r.Inputs[0])
		m := someRows(random, size, size, 1)
		isPossible := true
		for i, inputs := range r.Inputs {
			for k := range inputs {
				inputs[k] = api.Gauss{Re: inputs[k].Re % 2, Im: inputs[k].Im % 2}
			}
			outputs, e := drive.ResponseOf(m, inputs)
			if e != api.OK {
				t.Fatal(m, inputs, e)
			}
			r.Outputs[i] = outputs
			isPossible = isPossible && !slices.ContainsFunc(outputs, func(x api.Gauss) bool { return max(x.Re, -x.Re, x.Im, -x.Im) > api.MaxDriveNoise })
		}
		q, e := drive.Estimated(r)
		if !isPossible || e == api.ErrZero {
			continue
		}
		if e != api.OK || !areSame(q, api.DriveQuotient{Den: 1, Rows: m}) {
			t.Fatal(r, m, q, e)
		}
		for output, row := range m {
			isSilent := !slices.ContainsFunc(r.Outputs, func(outputs []api.Gauss) bool { return outputs[output] != api.Gauss{} })
			if f, e := drive.CoherenceOf(r, output); !isSilent && (f != (api.Frac{Num: 1, Den: 1}) || e != api.OK) {
				t.Fatal(r, row, f, e)
			}
		}
	}
}
