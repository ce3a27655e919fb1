package drive_test

import (
	"math/big"
	"math/rand/v2"
	"slices"
	"testing"

	"ductility/api"
	"ductility/drive"
)

// P4.1
func TestCheckMatrix(t *testing.T) {
	for _, m := range goodMatrices() {
		if i, e := drive.CheckMatrix(m); i != 0 || e != api.OK {
			t.Error(m, i, e)
		}
	}
	for _, x := range badMatrices() {
		if i, e := drive.CheckMatrix(x.m); i != x.index || e != x.want {
			t.Error(x.name, i, e)
		}
	}
}

// P4.1: a matrix with an error has it in all functions, before the errors of further arguments.
func TestMatrixErrors(t *testing.T) {
	for _, x := range badMatrices() {
		if p, e := drive.ProductOf(x.m, nil); len(p) != 0 || e != x.want {
			t.Error("ProductOf", x.name, p, e)
		}
		if p, e := drive.ProductOf(rowsOf(2, make([]int, 8)...), x.m); len(p) != 0 || e != x.want {
			t.Error("ProductOf, second", x.name, p, e)
		}
		if d, e := drive.DeterminantOf(x.m); d != (api.Gauss{}) || e != x.want {
			t.Error("DeterminantOf", x.name, d, e)
		}
		if q, e := drive.InverseOf(x.m); !isNothing(q) || e != x.want {
			t.Error("InverseOf", x.name, q, e)
		}
		if i, e := drive.CheckInverse(x.m, api.DriveQuotient{}); i != 0 || e != x.want {
			t.Error("CheckInverse", x.name, i, e)
		}
		if n, e := drive.SureError(x.m); n != 0 || e != x.want {
			t.Error("SureError", x.name, n, e)
		}
		if l, e := drive.ResponseOf(x.m, nil); len(l) != 0 || e != x.want {
			t.Error("ResponseOf", x.name, l, e)
		}
	}
}

// P4.1, example 1
func TestProduct(t *testing.T) {
	m := exampleMatrix()
	if p, e := drive.ProductOf(m, m); !same(p, rowsOf(2, 1, 0, 0, 3, 0, 0, 4, 0)) || e != api.OK {
		t.Error(p, e)
	}
	if p, e := drive.ProductOf(rowsOf(1, 0, 1), rowsOf(1, 0, 1)); !same(p, rowsOf(1, -1, 0)) || e != api.OK {
		t.Error("i times i", p, e)
	}
	if p, e := drive.ProductOf(rowsOf(2, 0, 0, 1, 0, 0, 0, 0, 0), rowsOf(2, 0, 0, 0, 0, 1, 0, 0, 0)); !same(p, rowsOf(2, 1, 0, 0, 0, 0, 0, 0, 0)) || e != api.OK {
		t.Error("order of the factors", p, e)
	}
	most := rowsOf(3, slices.Repeat([]int{20, 20}, 9)...)
	if p, e := drive.ProductOf(most, most); !same(p, rowsOf(3, slices.Repeat([]int{0, 2400}, 9)...)) || e != api.OK {
		t.Error("greater parts", p, e)
	}
	for _, other := range [][][]api.Gauss{rowsOf(1, 1, 0), widestMatrix()} {
		if p, e := drive.ProductOf(m, other); len(p) != 0 || e != api.ErrClash {
			t.Error(p, e)
		}
	}
}

// P4.1, example 1
func TestDeterminant(t *testing.T) {
	for _, x := range []struct {
		name string
		m    [][]api.Gauss
		want api.Gauss
	}{
		{"example", exampleMatrix(), api.Gauss{Re: 2}},
		{"one number", rowsOf(1, 3, -4), api.Gauss{Re: 3, Im: -4}},
		{"0", rowsOf(1, 0, 0), api.Gauss{}},
		{"changed rows", rowsOf(2, 0, 0, 2, 0, 1, 0, 0, 1), api.Gauss{Re: -2}},
		{"three rows", rowsOf(3, 1, 0, 2, 0, 3, 0, 4, 0, 5, 0, 6, 0, 7, 0, 8, 0, 10, 0), api.Gauss{Re: -3}},
		{"a round change of columns", rowsOf(3, 0, 0, 0, 1, 0, 0, 0, 0, 0, 0, 1, 0, 2, 0, 0, 0, 0, 0), api.Gauss{Im: 2}},
		{"dependent rows", rowsOf(2, 1, 0, 0, 1, 0, 1, -1, 0), api.Gauss{}},
	} {
		if d, e := drive.DeterminantOf(x.m); d != x.want || e != api.OK {
			t.Error(x.name, d, e)
		}
	}
}

// P4.1, example 1
func TestInverse(t *testing.T) {
	for _, x := range []struct {
		name string
		m    [][]api.Gauss
		want api.DriveQuotient
	}{
		{"example", exampleMatrix(), exampleInverse()},
		{"one number: its conjugate, by the square of its size", rowsOf(1, 3, 4), api.DriveQuotient{Den: 25, Rows: rowsOf(1, 3, -4)}},
		{"in lowest terms", rowsOf(1, 2, 4), api.DriveQuotient{Den: 10, Rows: rowsOf(1, 1, -2)}},
		{"below 0", rowsOf(1, -2, 0), api.DriveQuotient{Den: 2, Rows: rowsOf(1, -1, 0)}},
		{"below 0, imaginary", rowsOf(1, 0, -20), api.DriveQuotient{Den: 20, Rows: rowsOf(1, 0, 1)}},
		{"ten times 1", rowsOf(2, 10, 0, 0, 0, 0, 0, 10, 0), api.DriveQuotient{Den: 10, Rows: rowsOf(2, 1, 0, 0, 0, 0, 0, 1, 0)}},
		{"whole", rowsOf(2, 1, 0, 5, 0, 0, 0, 1, 0), api.DriveQuotient{Den: 1, Rows: rowsOf(2, 1, 0, -5, 0, 0, 0, 1, 0)}},
	} {
		if q, e := drive.InverseOf(x.m); !areSame(q, x.want) || e != api.OK {
			t.Error(x.name, q, e)
		}
		if i, e := drive.CheckInverse(x.m, x.want); i != 0 || e != api.OK {
			t.Error(x.name, i, e)
		}
	}
	for _, m := range [][][]api.Gauss{rowsOf(1, 0, 0), rowsOf(2, 1, 0, 0, 1, 0, 1, -1, 0), rowsOf(3, slices.Repeat([]int{20, 20}, 9)...)} {
		if q, e := drive.InverseOf(m); !isNothing(q) || e != api.ErrZero {
			t.Error(m, q, e)
		}
		if n, e := drive.SureError(m); n != 0 || e != api.ErrZero {
			t.Error(m, n, e)
		}
	}
}

// P4.1
func TestQuotientErrors(t *testing.T) {
	for _, x := range badQuotients() {
		if i, e := drive.CheckInverse(exampleMatrix(), x.x); i != 0 || e != x.want {
			t.Error(x.name, i, e)
		}
	}
}

// P4.1: the index is that of the first row of the matrix times the quotient that is wrong.
func TestWrongInverse(t *testing.T) {
	const most = api.MaxDriveDen
	for _, x := range []struct {
		name  string
		m     [][]api.Gauss
		x     api.DriveQuotient
		index int
	}{
		{"a number of the second row, which the first one uses", exampleMatrix(), api.DriveQuotient{Den: 2, Rows: rowsOf(2, 2, 0, 0, -1, 1, 0, 1, 0)}, 0},
		{"both rows", exampleMatrix(), api.DriveQuotient{Den: 2, Rows: rowsOf(2, 2, 0, 0, -1, 0, 0, 3, 0)}, 0},
		{"only the second row", exampleMatrix(), api.DriveQuotient{Den: 2, Rows: rowsOf(2, 2, 1, 0, 0, -1, 0, 0, 0)}, 1},
		{"another Den", exampleMatrix(), api.DriveQuotient{Den: 3, Rows: exampleInverse().Rows}, 0},
		{"the conjugate", rowsOf(1, 0, 1), api.DriveQuotient{Den: 1, Rows: rowsOf(1, 0, 1)}, 0},
		{"a matrix without an inverse", rowsOf(1, 0, 0), api.DriveQuotient{Den: 1, Rows: rowsOf(1, 0, 0)}, 0},
		{"the inverse of the transposed matrix", rowsOf(2, 1, 0, 1, 0, 0, 0, 1, 0), api.DriveQuotient{Den: 1, Rows: rowsOf(2, 1, 0, 0, 0, -1, 0, 1, 0)}, 0},
		{"greatest parts", widestMatrix(), api.DriveQuotient{Den: most - 1, Rows: rowsOf(3, slices.Repeat([]int{most, -most}, 9)...)}, 0},
		{"greatest parts, off by one", rowsOf(2, 1, 0, 0, 0, 0, 0, 1, 0), api.DriveQuotient{Den: most, Rows: rowsOf(2, most, 0, 0, 0, 0, 0, most-1, 0)}, 1},
	} {
		if i, e := drive.CheckInverse(x.m, x.x); i != x.index || e != api.ErrProof {
			t.Error(x.name, i, e)
		}
	}
}

// P4.1, example 1
func TestSureError(t *testing.T) {
	for _, x := range []struct {
		name string
		m    [][]api.Gauss
		want int
	}{
		{"example", exampleMatrix(), 0},
		{"ten times 1", rowsOf(2, 10, 0, 0, 0, 0, 0, 10, 0), 2},
		{"twelve times 1: 1 itself is not less", rowsOf(2, 12, 0, 0, 0, 0, 0, 12, 0), 2},
		{"thirteen times 1", rowsOf(2, 13, 0, 0, 0, 0, 0, 13, 0), 3},
		{"one number", rowsOf(1, 20, 0), 9},
		{"one number, odd", rowsOf(1, 19, 0), 9},
		{"one number, both parts", rowsOf(1, 20, 20), 9},
		{"one number, small", rowsOf(1, 0, 2), 0},
		{"one number, 3", rowsOf(1, 0, 3), 1},
		{"three rows", rowsOf(3, 20, 0, 0, 0, 0, 0, 0, 0, 19, 0, 0, 0, 0, 0, 0, 0, 20, 0), 3},
		{"the worst row", rowsOf(2, 20, 0, 0, 0, 0, 0, 4, 0), 0},
	} {
		if n, e := drive.SureError(x.m); n != x.want || e != api.OK {
			t.Error(x.name, n, e)
		}
	}
}

// P4.1, P4.6: CheckInverse accepts InverseOf, which is what elimination finds, and nothing else.
func TestInverseByHand(t *testing.T) {
	random := fixedRandom()
	for range 400 {
		m := someMatrix(random)
		want, isSolid := inverseByHand(numbersOf(m))
		d, e := drive.DeterminantOf(m)
		if e != api.OK || (d != api.Gauss{}) != isSolid {
			t.Fatal(m, d, e)
		}
		q, e := drive.InverseOf(m)
		if !isSolid {
			if !isNothing(q) || e != api.ErrZero {
				t.Fatal(m, q, e)
			}
			continue
		}
		if e != api.OK || !areSame(q, lowestByHand(want)) {
			t.Fatal(m, q, e)
		}
		if i, e := drive.CheckInverse(m, q); i != 0 || e != api.OK {
			t.Fatal(m, q, i, e)
		}
		mustRefuse(t, random, q, func(x api.DriveQuotient) api.Errno {
			_, e := drive.CheckInverse(m, x)
			return e
		})
	}
}

// mustRefuse changes a quotient in all its parts, one by one: none of these is accepted.
func mustRefuse(t *testing.T, random *rand.Rand, q api.DriveQuotient, check func(api.DriveQuotient) api.Errno) {
	t.Helper()
	refused := func(x api.DriveQuotient) {
		if e := check(x); e != api.ErrProof && e != api.ErrForm && e != api.ErrRange {
			t.Fatal(q, x, e)
		}
	}
	refused(api.DriveQuotient{Den: q.Den + 1, Rows: q.Rows})
	refused(api.DriveQuotient{Den: 2 * q.Den, Rows: q.Rows})
	for i, row := range q.Rows {
		for k := range row {
			for _, change := range []api.Gauss{{Re: 1}, {Re: -1}, {Im: 1}, {Im: -1 - random.IntN(9)}} {
				x := api.DriveQuotient{Den: q.Den, Rows: copied(q.Rows)}
				x.Rows[i][k].Re += change.Re
				x.Rows[i][k].Im += change.Im
				refused(x)
			}
		}
	}
}

// P4.6
func TestDeterminantOfProduct(t *testing.T) {
	random := fixedRandom()
	for range 400 {
		size := 1 + random.IntN(api.MaxDriveSize)
		// The product is to be a matrix, too: its parts are small.
		a, b := someRows(random, size, size, 1), someRows(random, size, size, 3)
		p, e := drive.ProductOf(a, b)
		if want := lowestByHand(productByHand(numbersOf(a), numbersOf(b))); e != api.OK || want.Den != 1 || !same(p, want.Rows) {
			t.Fatal(a, b, p, e)
		}
		first, _ := drive.DeterminantOf(a)
		second, _ := drive.DeterminantOf(b)
		both, e := drive.DeterminantOf(p)
		if e != api.OK || !numberOf(both).minus(numberOf(first).times(numberOf(second))).isZero() {
			t.Fatal(a, b, both, e)
		}
	}
}

// P4.1, P4.6: the sure error is the greatest one below its bound, and within it there is always an inverse.
func TestSureErrorIsSure(t *testing.T) {
	random := fixedRandom()
	isAny := false
	for range 400 {
		size := 1 + random.IntN(api.MaxDriveSize)
		m := someSolid(random, size)
		if random.IntN(2) == 0 {
			for i := range m {
				m[i][i].Re = 20 - random.IntN(3)
				m[i][(i+1)%size].Im = random.IntN(2)
			}
			if _, isSolid := inverseByHand(numbersOf(m)); !isSolid {
				continue
			}
		}
		n, e := drive.SureError(m)
		inverse, _ := inverseByHand(numbersOf(m))
		isBelow := func(n int) bool {
			bound := new(big.Rat).Mul(rowSumByHand(inverse), big.NewRat(int64(2*size*n), 1))
			return bound.Cmp(big.NewRat(1, 1)) < 0
		}
		if e != api.OK || !isBelow(n) || isBelow(n+1) {
			t.Fatal(m, n, e)
		}
		isAny = isAny || n > 0
		for range 5 {
			changed := copied(m)
			for _, row := range changed {
				for k := range row {
					row[k].Re += within(random, n)
					row[k].Im += within(random, n)
				}
			}
			if _, isSolid := inverseByHand(numbersOf(changed)); !isSolid {
				t.Fatal(m, n, changed)
			}
		}
	}
	if !isAny {
		t.Error("no sure error above 0")
	}
}

// P4.3
func TestResponse(t *testing.T) {
	m := exampleMatrix()
	if l, e := drive.ResponseOf(m, listOf(3, 0, 0, 4)); !slices.Equal(l, listOf(-1, 0, 0, 8)) || e != api.OK {
		t.Error(l, e)
	}
	most := rowsOf(3, slices.Repeat([]int{20, 20}, 9)...)
	if l, e := drive.ResponseOf(most, listOf(slices.Repeat([]int{10000, -10000}, 3)...)); !slices.Equal(l, listOf(slices.Repeat([]int{1200000, 0}, 3)...)) || e != api.OK {
		t.Error("greatest parts", l, e)
	}
	for _, x := range badLists() {
		if l, e := drive.ResponseOf(m, x.list); len(l) != 0 || e != x.want {
			t.Error(x.name, l, e)
		}
	}
	random := fixedRandom()
	for range 300 {
		m := someMatrix(random)
		list := someList(random, len(m), api.MaxDriveLevel)
		want := lowestByHand([][]number{appliedByHand(numbersOf(m), columnOf(list))})
		if l, e := drive.ResponseOf(m, list); e != api.OK || !same([][]api.Gauss{l}, want.Rows) {
			t.Fatal(m, list, l, e)
		}
	}
}
