package modal_test

import (
	"math"
	"testing"

	"ductility/api"
	"ductility/modal"
)

// P6.2, example 2 and edge cases
func TestCounts(t *testing.T) {
	for _, x := range []struct {
		f      api.ModalFrame
		square api.Frac
		below  int
		isMode bool
	}{
		{exampleFrame(), frac(1, 2), 0, false},
		{exampleFrame(), frac(1, 1), 1, false},
		{exampleFrame(), frac(3, 1), 1, false}, // the first determinant is 0
		{exampleFrame(), frac(4, 1), 2, false},
		{exampleFrame(), frac(58, 99), 1, false},
		{exampleFrame(), frac(41, 70), 0, false},
		{exampleFrame(), frac(17, 29), 1, false},
		{exampleFrame(), frac(99, 29), 1, false},
		{exampleFrame(), frac(41, 12), 2, false},
		{wholeFrame(), frac(1, 1), 0, true},
		{wholeFrame(), frac(99, 100), 0, false},
		{wholeFrame(), frac(100, 99), 1, false},
		{wholeFrame(), frac(6, 1), 1, true},
		{wholeFrame(), frac(95, 16), 1, false},
		{wholeFrame(), frac(97, 16), 2, false},
		{frameOf(3, 7), frac(7, 3), 0, true},
		{frameOf(3, 7), frac(93, 40), 0, false},
		{frameOf(3, 7), frac(47, 20), 1, false},
		{frameOf(3, 7), frac(0, 1), 0, false},
		{frameOf(1, 3, 1, 1, 1, 2), frac(2, 1), 1, true}, // the first determinant and the last one are 0
		{frameOf(1, 1, 1, 1, 2, 4), frac(2, 1), 1, false},
		{frameOf(1, 1, 1, 1, 2, 4), frac(7, 1), 2, false},
		{stiffFrame(), frac(80, 1), 4, false},
		{stiffFrame(), frac(100, 1), 4, false},
		{stiffFrame(), frac(20, 1), 1, true},
		{greatFrame(), frac(2, 1), 1, true},
		{greatFrame(), frac(-100, 1), 0, false},
		{greatFrame(), frac(-1, 100), 0, false},
		{heavyFrame(), frac(1, 100), 0, false},
		{heavyFrame(), frac(1, 10), 1, true},
		{heavyFrame(), frac(100, 1), 4, false},
	} {
		count, e := modal.CountBelow(x.f, x.square)
		mustBe(t, x, count, e, x.below, api.OK)
		isMode, e := modal.IsMode(x.f, x.square)
		mustBe(t, x, isMode, e, x.isMode, api.OK)
	}
}

// P6.2
func TestSquareErrors(t *testing.T) {
	for _, x := range badSquares() {
		count, e := modal.CountBelow(exampleFrame(), x.square)
		mustFail(t, x.square, count, e, x.want)
		isMode, e := modal.IsMode(wholeFrame(), x.square)
		mustFail(t, x.square, isMode, e, x.want)
	}
}

// squaresOf returns squares for a frame, those at which its determinants are 0 or may be among them.
func squaresOf(f api.ModalFrame) []api.Frac {
	all := goodSquares()
	add := func(num, den int) {
		if square := lowest(num, den); square.Num <= 100 && square.Den <= 100 {
			all = append(all, square)
		}
	}
	for i, mass := range f.Masses {
		spring := f.Springs[i]
		add(spring, mass)
		if i+1 < len(f.Masses) {
			add(spring+f.Springs[i+1], mass)
		}
	}
	for n := range 100 { // squares that belong to a mode
		for den := 1; den <= 10; den++ {
			if valueByHand(f, n, den).Sign() == 0 {
				add(n, den)
			}
		}
	}
	return all
}

// P6.2, P6.8: counts, and where the polynomial is 0.
func TestCountsByHand(t *testing.T) {
	modes := 0
	for _, f := range someFrames() {
		for _, square := range squaresOf(f) {
			below, at := countByHand(f, square.Num, square.Den)
			count, e := modal.CountBelow(f, square)
			mustBe(t, []any{f, square}, count, e, below, api.OK)
			isMode, e := modal.IsMode(f, square)
			mustBe(t, []any{f, square}, isMode, e, at > 0, api.OK)
			modes += at
			if isMode != (valueByHand(f, square.Num, square.Den).Sign() == 0) {
				t.Error("the polynomial", f, square)
			}
		}
	}
	if modes < 50 {
		t.Error(modes)
	}
}

// P6.8: no square is 0 or less, and none is greater than 4 times the greatest spring divided by the smallest mass.
func TestSquaresAreBounded(t *testing.T) {
	for _, f := range someFrames() {
		for _, square := range []api.Frac{frac(0, 1), frac(-1, 100), frac(-100, 1)} {
			count, e := modal.CountBelow(f, square)
			mustBe(t, f, count, e, 0, api.OK)
			isMode, e := modal.IsMode(f, square)
			mustBe(t, f, isMode, e, false, api.OK)
		}
		most, least := 0, math.MaxInt
		for i, mass := range f.Masses {
			most, least = max(most, f.Springs[i]), min(least, mass)
		}
		bound := lowest(4*most, least)
		count, e := modal.CountBelow(f, bound)
		isMode, _ := modal.IsMode(f, bound)
		if isMode {
			count++
		}
		mustBe(t, f, count, e, len(f.Masses), api.OK)
	}
}

// P6.8: the counts of ascending squares ascend, just after each square that belongs to a mode.
func TestCountsAscend(t *testing.T) {
	for _, f := range someFrames() {
		last, wasMode := 0, false
		for n := range 101 {
			count, _ := modal.CountBelow(f, frac(n, 1))
			if count < last || wasMode && count == last {
				t.Fatal(f, n, count, last)
			}
			last = count
			wasMode, _ = modal.IsMode(f, frac(n, 1))
		}
	}
}

// P6.2, examples 3 and 8, and edge cases
func TestEnclosures(t *testing.T) {
	for _, x := range []struct {
		f    api.ModalFrame
		den  int
		want []api.Range
	}{
		{exampleFrame(), 10, list(to(5, 6), to(34, 35))},
		{exampleFrame(), 1, list(to(0, 1), to(3, 4))},
		{exampleFrame(), 50, list(to(29, 30), to(170, 171))},
		{frameOf(1, 1, 1, 1), 10, list(to(3, 4), to(26, 27))},
		{wholeFrame(), 1, list(to(1, 1), to(6, 6))},
		{wholeFrame(), 50, list(to(50, 50), to(300, 300))},
		{tallFrame(), 50, list(to(50, 50), to(300, 300), to(750, 750), to(1400, 1400))},
		{frameOf(3, 7), 3, list(to(7, 7))},
		{frameOf(3, 7), 2, list(to(4, 5))},
		{frameOf(3, 7), 6, list(to(14, 14))},
		{frameOf(10, 1), 1, list(to(0, 1))},
		{frameOf(1, 20), 50, list(to(1000, 1000))},
		{heavyFrame(), 1, list(to(0, 1), to(0, 1), to(0, 1), to(0, 1))},
		{heavyFrame(), 10, list(to(0, 1), to(1, 1), to(2, 3), to(3, 4))}, // one of them is whole, and the end of another one
		{stiffFrame(), 50, list(to(120, 121), to(1000, 1000), to(2347, 2348), to(3532, 3533))},
		{greatFrame(), 50, list(to(12, 13), to(100, 100), to(234, 235), to(353, 354))},
	} {
		for mode, want := range x.want {
			r, e := modal.EnclosureOf(x.f, mode, x.den)
			mustBe(t, []any{x.f, mode, x.den}, r, e, want, api.OK)
		}
	}
}

// P6.2: a missing mode comes before a wrong denominator.
func TestEnclosureErrors(t *testing.T) {
	for _, mode := range []int{-1, 2, 3, math.MaxInt, math.MinInt} {
		for _, den := range []int{1, 50, 0, 51} {
			r, e := modal.EnclosureOf(exampleFrame(), mode, den)
			mustFail(t, mode, r, e, api.ErrMissing)
		}
	}
	for _, den := range []int{0, -1, 51, math.MaxInt, math.MinInt} {
		for _, mode := range []int{0, 1} {
			r, e := modal.EnclosureOf(exampleFrame(), mode, den)
			mustFail(t, den, r, e, api.ErrRange)
		}
	}
	r, e := modal.EnclosureOf(frameOf(1, 1), 1, 1)
	mustFail(t, "one storey", r, e, api.ErrMissing)
	r, e = modal.EnclosureOf(stiffFrame(), 3, 1)
	mustBe(t, "the last mode", r, e, to(70, 71), api.OK)
}

// P6.2, P6.9: den times the square lies in the enclosure, whose ends are rounded, and successive ones ascend.
func TestEnclosuresByHand(t *testing.T) {
	random := fixedRandom()
	whole := 0
	for _, f := range someFrames() {
		for _, den := range []int{1, 2, 10, 49, 50, 1 + random.IntN(50)} {
			last := api.Range{}
			for mode := range f.Masses {
				r, e := modal.EnclosureOf(f, mode, den)
				if e != api.OK || r.Lo < last.Lo || r.Hi < last.Hi {
					t.Fatal(f, mode, den, r, last, e)
				}
				last = r
				belowLo, atLo := countByHand(f, r.Lo, den)
				belowHi, atHi := countByHand(f, r.Hi, den)
				isWhole := r.Lo == r.Hi && belowLo == mode && atLo == 1
				isBetween := r.Hi == r.Lo+1 && belowLo+atLo <= mode && belowHi > mode
				if !isWhole && !isBetween {
					t.Fatal(f, mode, den, r, belowLo, atLo, belowHi, atHi)
				}
				if isWhole {
					whole++
				}
			}
		}
	}
	if whole < 50 {
		t.Error(whole)
	}
}

// P6.9: the sum of all squares lies between the sums of the ends.
func TestSumIsEnclosed(t *testing.T) {
	for _, f := range someFrames() {
		for _, den := range []int{1, 7, 50} {
			lo, hi := 0, 0
			for mode := range f.Masses {
				r, _ := modal.EnclosureOf(f, mode, den)
				lo, hi = lo+r.Lo, hi+r.Hi
			}
			sum, e := modal.SumOf(f)
			if e != api.OK || lo*sum.Den > den*sum.Num || hi*sum.Den < den*sum.Num {
				t.Fatal(f, den, lo, hi, sum, e)
			}
		}
	}
}

// P6.12: with a greater spring no count is greater, with a greater mass none is smaller.
func TestStifferOrHeavier(t *testing.T) {
	for _, f := range someFrames() {
		for _, square := range goodSquares() {
			count, _ := modal.CountBelow(f, square)
			for i := range f.Masses {
				if f.Springs[i] < api.MaxModalSpring {
					f.Springs[i]++
					stiffer, e := modal.CountBelow(f, square)
					f.Springs[i]--
					if stiffer > count || e != api.OK {
						t.Fatal(f, square, i, stiffer, count, e)
					}
				}
				if f.Masses[i] < api.MaxModalMass {
					f.Masses[i]++
					heavier, e := modal.CountBelow(f, square)
					f.Masses[i]--
					if heavier < count || e != api.OK {
						t.Fatal(f, square, i, heavier, count, e)
					}
				}
			}
		}
	}
}
