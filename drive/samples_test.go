package drive_test

import (
	"math"
	"math/big"
	"math/rand/v2"
	"reflect"
	"slices"
	"testing"

	"ductility/api"
	"ductility/drive"
)

// listOf returns the numbers of parts: the real and the imaginary part of each, in turn.
func listOf(parts ...int) []api.Gauss {
	var list []api.Gauss
	for i := 0; i < len(parts); i += 2 {
		list = append(list, api.Gauss{Re: parts[i], Im: parts[i+1]})
	}
	return list
}

// rowsOf returns rows of so many numbers of parts.
func rowsOf(size int, parts ...int) [][]api.Gauss {
	var rows [][]api.Gauss
	for row := range slices.Chunk(parts, 2*size) {
		rows = append(rows, listOf(row...))
	}
	return rows
}

// exampleMatrix returns the matrix m of the examples.
func exampleMatrix() [][]api.Gauss { return rowsOf(2, 1, 0, 0, 1, 0, 0, 2, 0) }

// exampleInverse returns the inverse of the matrix m.
func exampleInverse() api.DriveQuotient {
	return api.DriveQuotient{Den: 2, Rows: rowsOf(2, 2, 0, 0, -1, 0, 0, 1, 0)}
}

// exampleRuns returns the runs of the example 3.
func exampleRuns() api.DriveRuns {
	return api.DriveRuns{Inputs: rowsOf(1, 1, 0, 0, 1, 2, 0), Outputs: rowsOf(1, 2, 0, 0, 2, 5, 0)}
}

// exampleRig returns the rig of the example 4.
func exampleRig() api.DriveRig {
	return api.DriveRig{Plant: rowsOf(1, 2, 0), Model: rowsOf(1, 1, 0), Gain: api.Frac{Num: 1, Den: 2}, Step: 3}
}

// exampleLoop returns the loop of the example 7.
func exampleLoop() api.DriveLoop {
	return api.DriveLoop{Base: []int{4, 0, 0}, By: []int{0, 0, 1}, Masses: api.Range{Lo: 1, Hi: 6}}
}

// widestMatrix returns a matrix whose determinant is as great as can be.
func widestMatrix() [][]api.Gauss {
	return rowsOf(3, 20, 20, 20, 20, 20, 20, 20, 20, -20, -20, 20, 20, 20, -20, 20, -20, -20, 20)
}

// same tells whether values are the same; nil and empty slices are.
func same(a, b [][]api.Gauss) bool {
	return slices.EqualFunc(a, b, func(x, y []api.Gauss) bool { return slices.Equal(x, y) })
}

// areSame tells whether quotients are the same.
func areSame(a, b api.DriveQuotient) bool { return a.Den == b.Den && same(a.Rows, b.Rows) }

// isNothing tells whether a quotient is the zero value.
func isNothing(x api.DriveQuotient) bool { return x.Den == 0 && len(x.Rows) == 0 }

// copied returns rows in memory of their own.
func copied(rows [][]api.Gauss) [][]api.Gauss {
	var copies [][]api.Gauss
	for _, row := range rows {
		copies = append(copies, slices.Clone(row))
	}
	return copies
}

// badMatrix is a matrix with an error, and what CheckMatrix says of it.
type badMatrix struct {
	name  string
	m     [][]api.Gauss
	index int
	want  api.Errno
}

// badMatrices lists all errors of matrices; most of them have errors that are listed later, or stand in later rows, too.
func badMatrices() []badMatrix {
	far := api.Gauss{Re: api.MaxDrivePart + 1}
	return []badMatrix{
		{"nothing", nil, 0, api.ErrShape},
		{"no rows", [][]api.Gauss{}, 0, api.ErrShape},
		{"four rows", [][]api.Gauss{{far}, nil, nil, nil}, 0, api.ErrLarge},
		{"an empty row", [][]api.Gauss{{}}, 0, api.ErrShape},
		{"too many numbers", [][]api.Gauss{{far, far}}, 0, api.ErrShape},
		{"too few numbers", [][]api.Gauss{{far}, {far}}, 0, api.ErrShape},
		{"a shorter second row", [][]api.Gauss{{{}, {}}, {far}}, 1, api.ErrShape},
		{"a longer third row", append(rowsOf(3, make([]int, 12)...), make([]api.Gauss, 4)), 2, api.ErrShape},
		{"a range before a shape", [][]api.Gauss{{{}, far}, {}}, 0, api.ErrRange},
		{"a shape before a range", [][]api.Gauss{{{}}, {far, far}}, 0, api.ErrShape},
		{"above", rowsOf(1, 21, 0), 0, api.ErrRange},
		{"below", rowsOf(1, -21, 0), 0, api.ErrRange},
		{"imaginary above", rowsOf(2, 0, 0, 0, 0, 0, 0, 0, 21), 1, api.ErrRange},
		{"imaginary below", rowsOf(2, 0, 0, 0, 0, 0, -21, 0, 0), 1, api.ErrRange},
		{"the greatest", rowsOf(3, 0, 0, 0, 0, 0, 0, 0, 0, 0, 0, 0, 0, 0, 0, 0, 0, 0, math.MaxInt), 2, api.ErrRange},
		{"the smallest", rowsOf(1, math.MinInt, 0), 0, api.ErrRange},
		{"the smallest, imaginary", rowsOf(1, 0, math.MinInt), 0, api.ErrRange},
	}
}

// goodMatrices lists matrices whose numbers lie at the ends of what is permitted.
func goodMatrices() [][][]api.Gauss {
	return [][][]api.Gauss{
		exampleMatrix(), widestMatrix(), rowsOf(1, 0, 0), rowsOf(1, 20, -20), rowsOf(2, make([]int, 8)...),
		rowsOf(3, slices.Repeat([]int{-20, 20}, 9)...),
	}
}

// badList is a drive or a target with an error.
type badList struct {
	name string
	list []api.Gauss
	want api.Errno
}

// badLists lists all errors of drives and targets for matrices of two rows.
func badLists() []badList {
	return []badList{
		{"nothing", nil, api.ErrShape},
		{"too few", listOf(10001, 0), api.ErrShape},
		{"too many", listOf(10001, 0, 0, 0, 0, 0), api.ErrShape},
		{"above", listOf(10001, 0, 0, 0), api.ErrRange},
		{"below", listOf(0, 0, -10001, 0), api.ErrRange},
		{"imaginary above", listOf(0, 10001, 0, 0), api.ErrRange},
		{"imaginary below", listOf(0, 0, 0, -10001), api.ErrRange},
		{"the greatest", listOf(0, 0, 0, math.MaxInt), api.ErrRange},
		{"the smallest", listOf(math.MinInt, 0, 0, 0), api.ErrRange},
	}
}

// badQuotient is a quotient with an error.
type badQuotient struct {
	name string
	x    api.DriveQuotient
	want api.Errno
}

// badQuotients lists all errors of quotients for matrices of two rows.
func badQuotients() []badQuotient {
	const far = api.MaxDriveDen + 1
	zeros := rowsOf(2, make([]int, 8)...)
	return []badQuotient{
		{"nothing", api.DriveQuotient{}, api.ErrRange},
		{"Den below 0", api.DriveQuotient{Den: -2, Rows: exampleInverse().Rows}, api.ErrRange},
		{"Den above", api.DriveQuotient{Den: far}, api.ErrRange},
		{"the smallest Den", api.DriveQuotient{Den: math.MinInt, Rows: zeros}, api.ErrRange},
		{"no rows", api.DriveQuotient{Den: 2}, api.ErrShape},
		{"too few rows", api.DriveQuotient{Den: 2, Rows: rowsOf(2, far, 0, 0, 0)}, api.ErrShape},
		{"too many rows", api.DriveQuotient{Den: 2, Rows: rowsOf(2, make([]int, 12)...)}, api.ErrShape},
		{"too few numbers", api.DriveQuotient{Den: 2, Rows: [][]api.Gauss{{{Re: far}, {}}, {{}}}}, api.ErrShape},
		{"too many numbers", api.DriveQuotient{Den: 2, Rows: [][]api.Gauss{{{}, {}, {}}, {{}, {}}}}, api.ErrShape},
		{"above", api.DriveQuotient{Den: 2, Rows: rowsOf(2, far, 0, 0, 0, 0, 0, 0, 0)}, api.ErrRange},
		{"below", api.DriveQuotient{Den: 2, Rows: rowsOf(2, 0, 0, 0, 0, 0, 0, -far, 0)}, api.ErrRange},
		{"imaginary above", api.DriveQuotient{Den: 2, Rows: rowsOf(2, 0, 0, 0, far, 0, 0, 0, 0)}, api.ErrRange},
		{"imaginary below", api.DriveQuotient{Den: 2, Rows: rowsOf(2, 0, 0, 0, 0, 0, -far, 0, 0)}, api.ErrRange},
		{"the smallest", api.DriveQuotient{Den: 2, Rows: rowsOf(2, 0, 0, 0, 0, 0, 0, 0, math.MinInt)}, api.ErrRange},
		{"a range before the form", api.DriveQuotient{Den: 2, Rows: rowsOf(2, 0, 0, 0, 0, 0, 0, 0, far+1)}, api.ErrRange},
		{"not in lowest terms", api.DriveQuotient{Den: 4, Rows: rowsOf(2, 4, 0, 0, -2, 0, 0, 2, 0)}, api.ErrForm},
		{"zeros not in lowest terms", api.DriveQuotient{Den: 2, Rows: zeros}, api.ErrForm},
		{"the greatest, not in lowest terms", api.DriveQuotient{Den: api.MaxDriveDen, Rows: rowsOf(2, 0, 0, 0, 0, 0, 0, 0, -api.MaxDriveDen)}, api.ErrForm},
	}
}

// badRuns is runs with an error.
type badRuns struct {
	name string
	r    api.DriveRuns
	want api.Errno
}

// allBadRuns lists all errors of runs; most of them have errors that are listed later, too.
func allBadRuns() []badRuns {
	one, far := rowsOf(1, 1, 0), rowsOf(1, 10, 0)
	return []badRuns{
		{"nothing", api.DriveRuns{}, api.ErrShape},
		{"no inputs", api.DriveRuns{Outputs: one}, api.ErrShape},
		{"no outputs", api.DriveRuns{Inputs: far}, api.ErrShape},
		{"too many outputs", api.DriveRuns{Inputs: far, Outputs: slices.Repeat(far, 2)}, api.ErrShape},
		{"too many of all but one more outputs", api.DriveRuns{Inputs: slices.Repeat(one, 7), Outputs: slices.Repeat(one, 8)}, api.ErrShape},
		{"seven runs", api.DriveRuns{Inputs: make([][]api.Gauss, 7), Outputs: make([][]api.Gauss, 7)}, api.ErrLarge},
		{"a run without numbers", api.DriveRuns{Inputs: [][]api.Gauss{{}}, Outputs: [][]api.Gauss{{}}}, api.ErrShape},
		{"a run without inputs", api.DriveRuns{Inputs: [][]api.Gauss{{}}, Outputs: one}, api.ErrShape},
		{"a run without outputs", api.DriveRuns{Inputs: far, Outputs: [][]api.Gauss{{}}}, api.ErrShape},
		{"a run with too many outputs", api.DriveRuns{Inputs: far, Outputs: rowsOf(2, 0, 0, 0, 0)}, api.ErrShape},
		{"a second run with more inputs", api.DriveRuns{Inputs: append(rowsOf(1, 1, 0), listOf(1, 0, 2, 0)), Outputs: slices.Repeat(one, 2)}, api.ErrShape},
		{"a second run with more of both", api.DriveRuns{Inputs: append(rowsOf(1, 1, 0), listOf(1, 0, 2, 0)), Outputs: append(rowsOf(1, 1, 0), listOf(1, 0, 2, 0))}, api.ErrShape},
		{"a second run without inputs", api.DriveRuns{Inputs: [][]api.Gauss{{{Re: 1}}, {}}, Outputs: slices.Repeat(one, 2)}, api.ErrShape},
		{"a range before a shape", api.DriveRuns{Inputs: [][]api.Gauss{{{Re: 10}}, {}}, Outputs: slices.Repeat(one, 2)}, api.ErrRange},
		{"four numbers", api.DriveRuns{Inputs: rowsOf(4, 10, 0, 0, 0, 0, 0, 0, 0), Outputs: rowsOf(4, make([]int, 8)...)}, api.ErrLarge},
		{"four numbers and a shorter second run", api.DriveRuns{Inputs: append(rowsOf(4, make([]int, 8)...), nil), Outputs: append(rowsOf(4, make([]int, 8)...), nil)}, api.ErrLarge},
		{"input above", api.DriveRuns{Inputs: rowsOf(1, 10, 0), Outputs: one}, api.ErrRange},
		{"input below", api.DriveRuns{Inputs: rowsOf(1, 0, -10), Outputs: one}, api.ErrRange},
		{"output above", api.DriveRuns{Inputs: one, Outputs: rowsOf(1, 0, 10)}, api.ErrRange},
		{"output below", api.DriveRuns{Inputs: one, Outputs: rowsOf(1, -10, 0)}, api.ErrRange},
		{"the smallest", api.DriveRuns{Inputs: one, Outputs: rowsOf(1, math.MinInt, 0)}, api.ErrRange},
		{"the greatest", api.DriveRuns{Inputs: rowsOf(1, 0, math.MaxInt), Outputs: one}, api.ErrRange},
		{"a range in the last run", api.DriveRuns{Inputs: rowsOf(1, make([]int, 12)...), Outputs: rowsOf(1, 0, 0, 0, 0, 0, 0, 0, 0, 0, 0, 0, 10)}, api.ErrRange},
		{"a range before the determinant", api.DriveRuns{Inputs: rowsOf(1, 0, 0), Outputs: far}, api.ErrRange},
		{"inputs of 0", api.DriveRuns{Inputs: rowsOf(1, 0, 0), Outputs: one}, api.ErrZero},
		{"fewer runs than inputs", api.DriveRuns{Inputs: rowsOf(2, 1, 2, 3, 4), Outputs: rowsOf(2, 1, 0, 0, 1)}, api.ErrZero},
		{"two runs of three inputs", api.DriveRuns{Inputs: rowsOf(3, 1, 2, 3, 4, 5, 6, 9, -8, 7, -6, 5, -4), Outputs: rowsOf(3, make([]int, 12)...)}, api.ErrZero},
		{"dependent inputs", api.DriveRuns{Inputs: rowsOf(2, 1, 0, 0, 1, 0, 2, -2, 0, 3, 3, -3, 3), Outputs: rowsOf(2, make([]int, 12)...)}, api.ErrZero},
	}
}

// badRig is a rig with an error.
type badRig struct {
	name string
	r    api.DriveRig
	want api.Errno
}

// badRigs lists all errors of rigs; most of them have errors that are listed later, too.
func badRigs() []badRig {
	var all []badRig
	add := func(name string, want api.Errno, change func(r *api.DriveRig)) {
		r := exampleRig()
		change(&r)
		all = append(all, badRig{name, r, want})
	}
	for _, x := range badMatrices() {
		add("plant: "+x.name, x.want, func(r *api.DriveRig) { r.Plant = x.m; r.Model = nil; r.Gain.Den = 0 })
		add("model: "+x.name, x.want, func(r *api.DriveRig) { r.Model = x.m; r.Gain.Den = 0; r.Step = -1 })
	}
	add("a larger plant", api.ErrClash, func(r *api.DriveRig) { r.Plant = exampleMatrix(); r.Model = rowsOf(1, 0, 0) })
	add("a larger model", api.ErrClash, func(r *api.DriveRig) { r.Model = rowsOf(2, make([]int, 8)...); r.Gain.Den = 0 })
	add("a model of 0", api.ErrZero, func(r *api.DriveRig) { r.Model = rowsOf(1, 0, 0); r.Gain.Den = 0 })
	add("a model without an inverse", api.ErrZero, func(r *api.DriveRig) {
		r.Plant = exampleMatrix()
		r.Model = rowsOf(2, 1, 0, 0, 1, 0, 1, -1, 0)
		r.Step = -1
	})
	add("gain 0/0", api.ErrForm, func(r *api.DriveRig) { r.Gain = api.Frac{}; r.Step = -1 })
	add("gain 1/0", api.ErrForm, func(r *api.DriveRig) { r.Gain = api.Frac{Num: 1} })
	add("gain not in lowest terms", api.ErrForm, func(r *api.DriveRig) { r.Gain = api.Frac{Num: 200, Den: 100}; r.Step = -1 })
	add("gain 0 not in lowest terms", api.ErrForm, func(r *api.DriveRig) { r.Gain = api.Frac{Den: 2} })
	add("Den below 0", api.ErrForm, func(r *api.DriveRig) { r.Gain = api.Frac{Num: -1, Den: -2} })
	add("the smallest Den", api.ErrForm, func(r *api.DriveRig) { r.Gain = api.Frac{Num: 1, Den: math.MinInt} })
	add("the smallest of both", api.ErrForm, func(r *api.DriveRig) { r.Gain = api.Frac{Num: math.MinInt, Den: math.MinInt} })
	add("gain below 0", api.ErrRange, func(r *api.DriveRig) { r.Gain = api.Frac{Num: -1, Den: 2} })
	add("gain above 1", api.ErrRange, func(r *api.DriveRig) { r.Gain = api.Frac{Num: 3, Den: 2} })
	add("gain Den above", api.ErrRange, func(r *api.DriveRig) { r.Gain = api.Frac{Num: 1, Den: 101} })
	add("the smallest gain", api.ErrRange, func(r *api.DriveRig) { r.Gain = api.Frac{Num: math.MinInt, Den: math.MaxInt} })
	add("the greatest gain", api.ErrRange, func(r *api.DriveRig) { r.Gain = api.Frac{Num: math.MaxInt, Den: 1} })
	add("step below 0", api.ErrRange, func(r *api.DriveRig) { r.Step = -1 })
	add("step above", api.ErrRange, func(r *api.DriveRig) { r.Step = 1001 })
	add("the smallest step", api.ErrRange, func(r *api.DriveRig) { r.Step = math.MinInt })
	add("the greatest step", api.ErrRange, func(r *api.DriveRig) { r.Step = math.MaxInt })
	return all
}

// badPolynomial is a polynomial with an error.
type badPolynomial struct {
	name string
	p    []int
	want api.Errno
}

// badPolynomials lists all errors of polynomials.
func badPolynomials() []badPolynomial {
	return []badPolynomial{
		{"nothing", nil, api.ErrShape},
		{"no coefficients", []int{}, api.ErrShape},
		{"five coefficients", []int{0, 1001, 0, 0, 0}, api.ErrLarge},
		{"above", []int{0, 0, 1001}, api.ErrRange},
		{"below", []int{0, 0, 0, -1001}, api.ErrRange},
		{"the first one above", []int{1001}, api.ErrRange},
		{"the smallest", []int{math.MinInt, 0}, api.ErrRange},
		{"the greatest", []int{1, math.MaxInt}, api.ErrRange},
		{"first one 0", []int{0, 1, 2, 3}, api.ErrZero},
		{"0", []int{0}, api.ErrZero},
	}
}

// badLoop is a loop with an error.
type badLoop struct {
	name string
	l    api.DriveLoop
	want api.Errno
}

// badLoops lists all errors of loops; most of them have errors that are listed later, too.
func badLoops() []badLoop {
	far := api.Range{Lo: -1, Hi: 41}
	return []badLoop{
		{"nothing", api.DriveLoop{}, api.ErrShape},
		{"no base", api.DriveLoop{By: []int{1}, Masses: far}, api.ErrShape},
		{"no by", api.DriveLoop{Base: []int{1}}, api.ErrShape},
		{"a longer by", api.DriveLoop{Base: []int{1}, By: []int{0, 0}, Masses: far}, api.ErrShape},
		{"a longer base of five", api.DriveLoop{Base: make([]int, 5), By: make([]int, 4), Masses: far}, api.ErrShape},
		{"five", api.DriveLoop{Base: []int{1001, 0, 0, 0, 0}, By: make([]int, 5), Masses: far}, api.ErrLarge},
		{"masses below", api.DriveLoop{Base: []int{1}, By: []int{0}, Masses: api.Range{Lo: -1, Hi: 3}}, api.ErrRange},
		{"masses below before their order", api.DriveLoop{Base: []int{1}, By: []int{0}, Masses: api.Range{Lo: 0, Hi: -1}}, api.ErrRange},
		{"masses above", api.DriveLoop{Base: []int{1}, By: []int{0}, Masses: api.Range{Lo: 0, Hi: 41}}, api.ErrRange},
		{"masses outside before their order", api.DriveLoop{Base: []int{1}, By: []int{0}, Masses: api.Range{Lo: 41, Hi: 3}}, api.ErrRange},
		{"all masses", api.DriveLoop{Base: []int{1}, By: []int{0}, Masses: api.Range{Lo: math.MinInt, Hi: math.MaxInt}}, api.ErrRange},
		{"order", api.DriveLoop{Base: []int{0, 1001}, By: []int{0, 0}, Masses: api.Range{Lo: 4, Hi: 3}}, api.ErrOrder},
		{"base above", api.DriveLoop{Base: []int{0, 1001}, By: []int{0, -1}, Masses: api.Range{Lo: 1, Hi: 2}}, api.ErrRange},
		{"base below", api.DriveLoop{Base: []int{-1001}, By: []int{1}, Masses: api.Range{Lo: 1, Hi: 2}}, api.ErrRange},
		{"by above", api.DriveLoop{Base: []int{0, 0}, By: []int{0, 1001}, Masses: api.Range{}}, api.ErrRange},
		{"by below", api.DriveLoop{Base: []int{1}, By: []int{-1001}, Masses: api.Range{}}, api.ErrRange},
		{"the smallest", api.DriveLoop{Base: []int{1}, By: []int{math.MinInt}, Masses: api.Range{Lo: 2, Hi: 40}}, api.ErrRange},
		{"the greatest", api.DriveLoop{Base: []int{math.MaxInt}, By: []int{1}, Masses: api.Range{Lo: 2, Hi: 40}}, api.ErrRange},
		{"a sum above", api.DriveLoop{Base: []int{1, 999}, By: []int{0, 1}, Masses: api.Range{Lo: 1, Hi: 2}}, api.ErrRange},
		{"a sum below", api.DriveLoop{Base: []int{1, 0}, By: []int{0, -500}, Masses: api.Range{Lo: 0, Hi: 3}}, api.ErrRange},
		{"zero for all masses", api.DriveLoop{Base: []int{0, 1}, By: []int{0, 0}}, api.ErrZero},
		{"zero for the last mass", api.DriveLoop{Base: []int{6, 9}, By: []int{-1, 0}, Masses: api.Range{Lo: 1, Hi: 6}}, api.ErrZero},
		{"zero before a sum above", api.DriveLoop{Base: []int{-1, 999}, By: []int{1, 1}, Masses: api.Range{Lo: 1, Hi: 3}}, api.ErrZero},
		{"a sum above before zero", api.DriveLoop{Base: []int{-2, 1000}, By: []int{1, 1}, Masses: api.Range{Lo: 1, Hi: 3}}, api.ErrRange},
		{"a sum above with zero", api.DriveLoop{Base: []int{-1, 1000}, By: []int{1, 1}, Masses: api.Range{Lo: 1, Hi: 3}}, api.ErrRange},
		{"an error after an unstable mass", api.DriveLoop{Base: []int{3, 5}, By: []int{-1, 0}, Masses: api.Range{Lo: 0, Hi: 3}}, api.ErrZero},
	}
}

// fixedRandom returns the same numbers in each run.
func fixedRandom() *rand.Rand { return rand.New(rand.NewPCG(4, 4)) }

// within returns a number of at most so great a size.
func within(random *rand.Rand, size int) int { return random.IntN(2*size+1) - size }

// someList returns so many numbers whose parts are at most so great in size.
func someList(random *rand.Rand, count, size int) []api.Gauss {
	list := make([]api.Gauss, count)
	for i := range list {
		list[i] = api.Gauss{Re: within(random, size), Im: within(random, size)}
	}
	return list
}

// someRows returns so many rows.
func someRows(random *rand.Rand, rows, count, size int) [][]api.Gauss {
	var all [][]api.Gauss
	for range rows {
		all = append(all, someList(random, count, size))
	}
	return all
}

// someMatrix returns a matrix of one to three rows; many of them have parts that are small, or 0.
func someMatrix(random *rand.Rand) [][]api.Gauss {
	size := 1 + random.IntN(api.MaxDriveSize)
	return someRows(random, size, size, 1+random.IntN(api.MaxDrivePart))
}

// someSolid returns a matrix of so many rows with an inverse.
func someSolid(random *rand.Rand, size int) [][]api.Gauss {
	for {
		m := someRows(random, size, size, 1+random.IntN(api.MaxDrivePart))
		if _, isSolid := inverseByHand(numbersOf(m)); isSolid {
			return m
		}
	}
}

// someRuns returns runs with an estimate.
func someRuns(random *rand.Rand) api.DriveRuns {
	for {
		numbers, runs, size := 1+random.IntN(api.MaxDriveSize), 1+random.IntN(api.MaxDriveRuns), 1+random.IntN(api.MaxDriveNoise)
		r := api.DriveRuns{Inputs: someRows(random, runs, numbers, size), Outputs: someRows(random, runs, numbers, size)}
		if _, e := drive.Estimated(r); e == api.OK {
			return r
		}
	}
}

// someRig returns a rig.
func someRig(random *rand.Rand) api.DriveRig {
	size := 1 + random.IntN(api.MaxDriveSize)
	gain := big.NewRat(1, 1)
	if den := 1 + random.IntN(100); den > 1 {
		gain.SetFrac64(int64(random.IntN(den+1)), int64(den))
	}
	return api.DriveRig{
		Plant: someRows(random, size, size, 1+random.IntN(api.MaxDrivePart)),
		Model: someSolid(random, size),
		Gain:  api.Frac{Num: int(gain.Num().Int64()), Den: int(gain.Denom().Int64())},
		Step:  random.IntN(api.MaxDriveStep + 1),
	}
}

// number is a complex number of quotients.
type number struct{ re, im *big.Rat }

// numberOf returns a whole number as one of quotients.
func numberOf(x api.Gauss) number {
	return number{big.NewRat(int64(x.Re), 1), big.NewRat(int64(x.Im), 1)}
}

// numbersOf returns rows of whole numbers as rows of quotients.
func numbersOf(rows [][]api.Gauss) [][]number {
	var all [][]number
	for _, row := range rows {
		all = append(all, columnOf(row))
	}
	return all
}

// columnOf returns whole numbers as quotients.
func columnOf(list []api.Gauss) []number {
	var all []number
	for _, x := range list {
		all = append(all, numberOf(x))
	}
	return all
}

// plus returns the sum.
func (x number) plus(y number) number {
	return number{new(big.Rat).Add(x.re, y.re), new(big.Rat).Add(x.im, y.im)}
}

// minus returns the difference.
func (x number) minus(y number) number {
	return number{new(big.Rat).Sub(x.re, y.re), new(big.Rat).Sub(x.im, y.im)}
}

// times returns the product.
func (x number) times(y number) number {
	a, b := new(big.Rat).Mul(x.re, y.re), new(big.Rat).Mul(x.im, y.im)
	c, d := new(big.Rat).Mul(x.re, y.im), new(big.Rat).Mul(x.im, y.re)
	return number{a.Sub(a, b), c.Add(c, d)}
}

// square returns the square of the size.
func (x number) square() *big.Rat {
	a, b := new(big.Rat).Mul(x.re, x.re), new(big.Rat).Mul(x.im, x.im)
	return a.Add(a, b)
}

// size returns the sum of the sizes of both parts.
func (x number) size() *big.Rat {
	a, b := new(big.Rat).Abs(x.re), new(big.Rat).Abs(x.im)
	return a.Add(a, b)
}

// by returns the number divided by another one.
func (x number) by(y number) number {
	square := y.square()
	product := x.times(number{y.re, new(big.Rat).Neg(y.im)})
	return number{product.re.Quo(product.re, square), product.im.Quo(product.im, square)}
}

// isZero tells whether the number is 0.
func (x number) isZero() bool { return x.re.Sign() == 0 && x.im.Sign() == 0 }

// productByHand returns the product of rows.
func productByHand(a, b [][]number) [][]number {
	var rows [][]number
	for _, row := range a {
		product := make([]number, len(b[0]))
		for k := range product {
			product[k] = numberOf(api.Gauss{})
			for j, x := range row {
				product[k] = product[k].plus(x.times(b[j][k]))
			}
		}
		rows = append(rows, product)
	}
	return rows
}

// appliedByHand returns rows times a column.
func appliedByHand(rows [][]number, column []number) []number {
	var single [][]number
	for _, x := range column {
		single = append(single, []number{x})
	}
	return slices.Concat(productByHand(rows, single)...)
}

// inverseByHand eliminates with quotients; it tells whether there is an inverse.
func inverseByHand(m [][]number) ([][]number, bool) {
	size := len(m)
	var rows [][]number
	for i, row := range m {
		longer := slices.Clone(row)
		for k := range size {
			x := api.Gauss{}
			if i == k {
				x.Re = 1
			}
			longer = append(longer, numberOf(x))
		}
		rows = append(rows, longer)
	}
	for column := range size {
		pivot := slices.IndexFunc(rows[column:], func(row []number) bool { return !row[column].isZero() })
		if pivot < 0 {
			return nil, false
		}
		rows[column], rows[column+pivot] = rows[column+pivot], rows[column]
		first := rows[column][column]
		for k, x := range rows[column] {
			rows[column][k] = x.by(first)
		}
		for i := range rows {
			if factor := rows[i][column]; i != column {
				for k, x := range rows[i] {
					rows[i][k] = x.minus(factor.times(rows[column][k]))
				}
			}
		}
	}
	var inverse [][]number
	for _, row := range rows {
		inverse = append(inverse, row[size:])
	}
	return inverse, true
}

// rowSumByHand returns the row sum of rows.
func rowSumByHand(rows [][]number) *big.Rat {
	most := new(big.Rat)
	for _, row := range rows {
		sum := new(big.Rat)
		for _, x := range row {
			sum.Add(sum, x.size())
		}
		if sum.Cmp(most) > 0 {
			most = sum
		}
	}
	return most
}

// lowestByHand returns rows of quotients as one quotient, with the least common denominator.
func lowestByHand(rows [][]number) api.DriveQuotient {
	den := big.NewInt(1)
	for _, x := range slices.Concat(rows...) {
		for _, part := range []*big.Rat{x.re, x.im} {
			divisor := new(big.Int).GCD(nil, nil, den, part.Denom())
			den = new(big.Int).Mul(den, new(big.Int).Quo(part.Denom(), divisor))
		}
	}
	factor := new(big.Rat).SetInt(den)
	whole := func(part *big.Rat) int {
		return int(new(big.Rat).Mul(part, factor).Num().Int64())
	}
	quotient := api.DriveQuotient{Den: int(den.Int64())}
	for _, row := range rows {
		var list []api.Gauss
		for _, x := range row {
			list = append(list, api.Gauss{Re: whole(x.re), Im: whole(x.im)})
		}
		quotient.Rows = append(quotient.Rows, list)
	}
	return quotient
}

// isFraction tells whether a fraction is the quotient, in lowest terms.
func isFraction(f api.Frac, q *big.Rat) bool {
	return q.Num().IsInt64() && q.Num().Int64() == int64(f.Num) && q.Denom().IsInt64() && q.Denom().Int64() == int64(f.Den)
}

// isTooLarge tells whether a part of a quotient in lowest terms is greater than fractions may have.
func isTooLarge(q *big.Rat) bool {
	most := big.NewInt(api.MaxPart)
	return new(big.Int).Abs(q.Num()).Cmp(most) > 0 || q.Denom().Cmp(most) > 0
}

// mustInvert returns the inverse of a matrix.
func mustInvert(t *testing.T, m [][]api.Gauss) api.DriveQuotient {
	t.Helper()
	x, e := drive.InverseOf(m)
	if e != api.OK {
		t.Fatal(m, e)
	}
	return x
}

// mustStay tells of a value that is no longer what it was.
func mustStay(t *testing.T, name string, got, want any) {
	t.Helper()
	if !reflect.DeepEqual(got, want) {
		t.Error(name, got, want)
	}
}
