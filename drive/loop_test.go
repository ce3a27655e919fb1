package drive_test

import (
	"math/big"
	"math/cmplx"
	"math/rand/v2"
	"slices"
	"testing"

	"ductility/api"
	"ductility/drive"
)

// sameTable tells whether tables are the same.
func sameTable(a, b [][]int) bool {
	return slices.EqualFunc(a, b, func(x, y []int) bool { return slices.Equal(x, y) })
}

// P4.4, example 6
func TestTable(t *testing.T) {
	for _, x := range []struct {
		name string
		p    []int
		want [][]int
	}{
		{"stable", []int{2, -2, 1}, [][]int{{2, -2, 1}, {3, -2}, {1}}},
		{"not stable", []int{1, -3, 2}, [][]int{{1, -3, 2}}},
		{"one coefficient", []int{7}, [][]int{{1}}},
		{"one coefficient below 0", []int{-1000}, [][]int{{1}}},
		{"in lowest terms", []int{4, -4, 2}, [][]int{{2, -2, 1}, {3, -2}, {1}}},
		{"other signs", []int{-2, 2, -1}, [][]int{{2, -2, 1}, {3, -2}, {1}}},
		{"a zero at 0", []int{5, 0}, [][]int{{1, 0}, {1}}},
		{"a zero on the circle", []int{1, -1}, [][]int{{1, -1}}},
		{"its opposite", []int{3, 3}, [][]int{{1, 1}}},
		{"two zeros on the circle", []int{1, 0, 1}, [][]int{{1, 0, 1}}},
		{"not stable in the second row", []int{2, 5, 1}, [][]int{{2, 5, 1}, {3, 5}}},
		{"a zero on the circle in the second row", []int{2, 3, 1}, [][]int{{2, 3, 1}, {1, 1}}},
		{"four coefficients", []int{8, 0, 0, 1}, [][]int{{8, 0, 0, 1}, {1, 0, 0}, {1, 0}, {1}}},
		{"rows in lowest terms", []int{4, 2, 1, 1}, [][]int{{4, 2, 1, 1}, {15, 7, 2}, {17, 7}, {1}}},
		{"not stable in the third row, by a zero at -1", []int{4, 2, -1, 1}, [][]int{{4, 2, -1, 1}, {5, 3, -2}, {1, 1}}},
		{"not stable in the third row", []int{2, 4, 3, 1}, [][]int{{2, 4, 3, 1}, {3, 5, 2}, {1, 1}}},
	} {
		if table, e := drive.TableOf(x.p); !sameTable(table, x.want) || e != api.OK {
			t.Error(x.name, table, e)
		}
	}
}

// P4.4
func TestIsStable(t *testing.T) {
	for _, x := range []struct {
		name string
		p    []int
		want bool
	}{
		{"example", []int{2, -2, 1}, true},
		{"example, not stable", []int{1, -3, 2}, false},
		{"one coefficient", []int{-5}, true},
		{"a zero at 0", []int{1, 0, 0, 0}, true},
		{"a zero on the circle", []int{1, -1}, false},
		{"nearly on the circle", []int{1000, 999}, true},
		{"just outside", []int{999, 1000}, false},
		{"three zeros nearly on the circle", []int{1000, 0, 0, -999}, true},
		{"a zero on the circle at the end", []int{2, 4, 3, 1}, false},
		{"all rows, the last number of which is small", []int{1, 5, 1, 0}, false},
	} {
		if is, e := drive.IsStable(x.p); is != x.want || e != api.OK {
			t.Error(x.name, is, e)
		}
	}
}

// P4.4
func TestPolynomialErrors(t *testing.T) {
	for _, x := range badPolynomials() {
		if table, e := drive.TableOf(x.p); len(table) != 0 || e != x.want {
			t.Error("TableOf", x.name, table, e)
		}
		if is, e := drive.IsStable(x.p); is || e != x.want {
			t.Error("IsStable", x.name, is, e)
		}
	}
	for _, p := range [][]int{{1000, -1000, 1000, -1000}, {-1}, {1, 0}} {
		if _, e := drive.TableOf(p); e != api.OK {
			t.Error(p, e)
		}
	}
}

// somePolynomial returns a polynomial.
func somePolynomial(random *rand.Rand) []int {
	size := []int{3, 20, api.MaxDriveCoef}[random.IntN(3)]
	p := make([]int, 1+random.IntN(api.MaxDriveDegree+1))
	for i := range p {
		p[i] = within(random, size)
	}
	p[0] = 1 + random.IntN(size)
	if random.IntN(2) == 0 {
		p[0] = -p[0]
	}
	return p
}

// tableByHand returns a table by large numbers.
func tableByHand(p []int) [][]int {
	var row []*big.Int
	for _, n := range p {
		row = append(row, big.NewInt(int64(n)))
	}
	var table [][]int
	for {
		divisor := new(big.Int)
		for _, n := range row {
			divisor.GCD(nil, nil, divisor, new(big.Int).Abs(n))
		}
		if row[0].Sign() < 0 {
			divisor.Neg(divisor)
		}
		var numbers []int
		for i := range row {
			row[i] = new(big.Int).Quo(row[i], divisor)
			numbers = append(numbers, int(row[i].Int64()))
		}
		table = append(table, numbers)
		n := len(row) - 1
		if n == 0 || row[n].CmpAbs(row[0]) >= 0 {
			return table
		}
		var next []*big.Int
		for j := range n {
			a, b := new(big.Int).Mul(row[0], row[j]), new(big.Int).Mul(row[n], row[n-j])
			next = append(next, a.Sub(a, b))
		}
		row = next
	}
}

// P4.4
func TestTableByHand(t *testing.T) {
	random := fixedRandom()
	for range 3000 {
		p := somePolynomial(random)
		want := tableByHand(p)
		table, e := drive.TableOf(p)
		if !sameTable(table, want) || e != api.OK {
			t.Fatal(p, table, want, e)
		}
		if is, e := drive.IsStable(p); is != (len(want[len(want)-1]) == 1) || e != api.OK {
			t.Fatal(p, is, e)
		}
	}
}

// zerosOf finds the zeros of a polynomial by moving all of them until they stay.
func zerosOf(p []int) []complex128 {
	zeros := make([]complex128, len(p)-1)
	for i := range zeros {
		zeros[i] = cmplx.Pow(complex(0.4, 0.9), complex(float64(i), 0))
	}
	for range 2000 {
		for i, z := range zeros {
			value, others := complex(0, 0), complex(1, 0)
			for _, n := range p {
				value = value*z + complex(float64(n)/float64(p[0]), 0)
			}
			for k, other := range zeros {
				if k != i {
					others *= z - other
				}
			}
			if others != 0 {
				zeros[i] = z - value/others
			}
		}
	}
	return zeros
}

// P4.4: a stable polynomial has all of its zeros inside the circle.
func TestZerosOfStable(t *testing.T) {
	random := fixedRandom()
	found := map[bool]int{}
	for range 1500 {
		p := somePolynomial(random)
		most := 0.0
		for _, z := range zerosOf(p) {
			most = max(most, cmplx.Abs(z))
		}
		if most > 0.999 && most < 1.001 {
			continue
		}
		is, e := drive.IsStable(p)
		found[is]++
		if is != (most < 1) || e != api.OK {
			t.Fatal(p, most, is, e)
		}
	}
	if found[true] < 100 || found[false] < 100 {
		t.Error(found)
	}
}

// P4.10
func TestStableAlike(t *testing.T) {
	random := fixedRandom()
	for range 1000 {
		p := somePolynomial(random)
		is, _ := drive.IsStable(p)
		for _, factor := range []int{-1, 2, -3} {
			longer, isPossible := slices.Clone(p), true
			for i := range longer {
				longer[i] *= factor
				isPossible = isPossible && max(longer[i], -longer[i]) <= api.MaxDriveCoef
			}
			if same, e := drive.IsStable(longer); isPossible && (same != is || e != api.OK) {
				t.Fatal(p, factor, same, e)
			}
		}
		for first := range 2 {
			other := slices.Clone(p)
			for i := first; i < len(other); i += 2 {
				other[i] = -other[i]
			}
			if same, e := drive.IsStable(other); same != is || e != api.OK {
				t.Fatal(p, other, same, e)
			}
		}
		if last := p[len(p)-1]; is && len(p) > 1 && max(last, -last) >= max(p[0], -p[0]) {
			t.Fatal(p, is)
		}
	}
}

// P4.4, example 7
func TestLoops(t *testing.T) {
	change := func(lo, hi int) api.DriveLoop {
		l := exampleLoop()
		l.Masses = api.Range{Lo: lo, Hi: hi}
		return l
	}
	for _, x := range []struct {
		name        string
		l           api.DriveLoop
		first       int
		firstError  api.Errno
		margin      int
		marginError api.Errno
	}{
		{"example", exampleLoop(), 4, api.OK, 3, api.OK},
		{"from 0 on", change(0, 40), 4, api.OK, 3, api.OK},
		{"the last mass", change(3, 4), 4, api.OK, 3, api.OK},
		{"the first mass", change(4, 40), 4, api.OK, 0, api.ErrNone},
		{"from an unstable one on", change(7, 9), 7, api.OK, 0, api.ErrNone},
		{"all are stable", change(0, 3), 0, api.ErrNone, 3, api.OK},
		{"one stable mass", change(2, 2), 0, api.ErrNone, 2, api.OK},
		{"one unstable mass", change(4, 4), 4, api.OK, 0, api.ErrNone},
		{"0 is stable", change(0, 0), 0, api.ErrNone, 0, api.OK},
		{"0 is not stable", api.DriveLoop{Base: []int{1, 1}, By: []int{1, 0}, Masses: api.Range{Lo: 0, Hi: 9}}, 0, api.OK, 0, api.ErrNone},
		{"stable again", api.DriveLoop{Base: []int{10, -15}, By: []int{0, 3}, Masses: api.Range{Lo: 2, Hi: 9}}, 9, api.OK, 8, api.OK},
		{"stable later", api.DriveLoop{Base: []int{10, -15}, By: []int{0, 3}, Masses: api.Range{Lo: 1, Hi: 9}}, 1, api.OK, 0, api.ErrNone},
		{"one coefficient", api.DriveLoop{Base: []int{-1}, By: []int{-20}, Masses: api.Range{Lo: 0, Hi: 40}}, 0, api.ErrNone, 40, api.OK},
		{"the greatest by", api.DriveLoop{Base: []int{1000, -1000}, By: []int{-1000, 1000}, Masses: api.Range{Lo: 2, Hi: 2}}, 2, api.OK, 0, api.ErrNone},
		{"the greatest", api.DriveLoop{Base: []int{1000, 0, 0, -1000}, By: []int{0, 0, 0, 50}, Masses: api.Range{Lo: 1, Hi: 40}}, 40, api.OK, 39, api.OK},
	} {
		if n, e := drive.FirstUnstable(x.l); n != x.first || e != x.firstError {
			t.Error(x.name, n, e)
		}
		if n, e := drive.MarginOf(x.l); n != x.margin || e != x.marginError {
			t.Error(x.name, n, e)
		}
	}
}

// P4.4
func TestLoopErrors(t *testing.T) {
	for _, x := range badLoops() {
		if n, e := drive.FirstUnstable(x.l); n != 0 || e != x.want {
			t.Error("FirstUnstable", x.name, n, e)
		}
		if n, e := drive.MarginOf(x.l); n != 0 || e != x.want {
			t.Error("MarginOf", x.name, n, e)
		}
	}
}

// loopByHand returns the first unstable mass of a loop, one more than its last one if there is none, or the error of its polynomials.
func loopByHand(l api.DriveLoop) (int, api.Errno) {
	first := l.Masses.Hi + 1
	for mass := l.Masses.Lo; mass <= l.Masses.Hi; mass++ {
		var p []int
		for i, n := range l.Base {
			p = append(p, n+mass*l.By[i])
		}
		is, e := drive.IsStable(p)
		if e != api.OK {
			return 0, e
		}
		if !is {
			first = min(first, mass)
		}
	}
	return first, api.OK
}

// P4.4, P4.10
func TestLoopsByHand(t *testing.T) {
	random := fixedRandom()
	found := map[api.Errno]int{}
	for range 1000 {
		base := somePolynomial(random)
		l := api.DriveLoop{Base: base, By: make([]int, len(base))}
		for i := range l.By {
			l.By[i] = within(random, 1+max(base[0], -base[0])/4)
		}
		l.By[0] = random.IntN(2)
		l.Masses.Lo = random.IntN(10)
		l.Masses.Hi = l.Masses.Lo + random.IntN(api.MaxDriveClass+1-l.Masses.Lo)
		first, want := loopByHand(l)
		n, e := drive.FirstUnstable(l)
		margin, marginError := drive.MarginOf(l)
		found[e]++
		if want != api.OK {
			if n != 0 || e != want || margin != 0 || marginError != want {
				t.Fatal(l, n, e, margin, marginError)
			}
			continue
		}
		if isNone := first > l.Masses.Hi; isNone && (n != 0 || e != api.ErrNone) || !isNone && (n != first || e != api.OK) {
			t.Fatal(l, n, e)
		}
		if isNone := first == l.Masses.Lo; isNone && (margin != 0 || marginError != api.ErrNone) || !isNone && (margin != first-1 || marginError != api.OK) {
			t.Fatal(l, margin, marginError)
		}
		smaller := l
		smaller.Masses.Hi -= random.IntN(l.Masses.Hi - l.Masses.Lo + 1)
		if less, lessError := drive.FirstUnstable(smaller); lessError == api.OK && (e != api.OK || n > less) {
			t.Fatal(l, smaller, n, less)
		}
	}
	for _, e := range []api.Errno{api.OK, api.ErrNone, api.ErrRange, api.ErrZero} {
		if found[e] == 0 {
			t.Error(found)
		}
	}
}
