package modal_test

import (
	"math"
	"math/rand/v2"
	"slices"
	"testing"

	"ductility/api"
	"ductility/modal"
)

// damage returns a storey and what is left of the spring below it.
func damage(storey, left int) api.ModalDamage { return api.ModalDamage{Storey: storey, Left: left} }

// enclosuresOf returns the enclosures of all modes of a frame as ranges after a run.
func enclosuresOf(f api.ModalFrame, den int) api.ModalAfter {
	x := api.ModalAfter{Den: den}
	for mode := range f.Masses {
		r, _ := modal.EnclosureOf(f, mode, den)
		x.Squares = append(x.Squares, r)
	}
	return x
}

// damagedBy returns a frame with what a damage leaves of it.
func damagedBy(f api.ModalFrame, d api.ModalDamage) api.ModalFrame {
	springs := slices.Clone(f.Springs)
	springs[d.Storey] = d.Left
	return api.ModalFrame{Masses: f.Masses, Springs: springs}
}

// firstUnlike returns the first mode of which the enclosure has no number in common with its range, and whether there is one.
func firstUnlike(f api.ModalFrame, x api.ModalAfter) (int, bool) {
	for mode, r := range enclosuresOf(f, x.Den).Squares {
		if r.Hi < x.Squares[mode].Lo || x.Squares[mode].Hi < r.Lo {
			return mode, true
		}
	}
	return 0, false
}

// P6.6, examples 3 and 8, and edge cases
func TestExplained(t *testing.T) {
	for _, x := range []struct {
		name string
		f    api.ModalFrame
		x    api.ModalAfter
		want api.ModalDamage
		e    api.Errno
	}{
		{"example", exampleFrame(), exampleAfter(), damage(0, 1), api.OK},
		{"as it is", exampleFrame(), after(10, to(5, 6), to(34, 35)), damage(0, 2), api.OK},
		{"as it is, at the ends", exampleFrame(), after(10, to(6, 9), to(0, 34)), damage(0, 2), api.OK},
		{"anything", exampleFrame(), after(1, to(0, 99), to(0, 99)), damage(0, 2), api.OK},
		{"too low", exampleFrame(), after(10, to(0, 0), to(0, 0)), api.ModalDamage{}, api.ErrNone},
		{"too great", exampleFrame(), after(10, to(7, 9), to(34, 35)), api.ModalDamage{}, api.ErrNone},
		{"the first mode alone", exampleFrame(), after(10, to(3, 4), to(28, 29)), api.ModalDamage{}, api.ErrNone},
		{"the greatest ranges", exampleFrame(), after(10, to(0, api.MaxModalEnd), to(api.MaxModalEnd, api.MaxModalEnd)), api.ModalDamage{}, api.ErrNone},
		{"one storey", frameOf(2, 20), after(2, to(13, 17)), damage(0, 17), api.OK},
		{"one storey, exactly", frameOf(2, 20), after(2, to(1, 1)), damage(0, 1), api.OK},
		{"one storey, nothing is left", frameOf(2, 20), after(2, to(0, 0)), api.ModalDamage{}, api.ErrNone},
		{"the upper storey", frameOf(1, 1, 2, 3), enclosuresOf(frameOf(1, 1, 2, 2), 50), damage(1, 2), api.OK},
		{"the top", tallFrame(), enclosuresOf(frameOf(1, 1, 1, 1, 10, 9, 7, 1), 50), damage(3, 1), api.OK},
	} {
		d, e := modal.ExplainedBy(x.f, x.x)
		mustBe(t, x.name, d, e, x.want, x.e)
	}
}

// P6.6: of several the greatest part of a spring that is left, and of these the lowest storey.
func TestWhichExplanation(t *testing.T) {
	for _, x := range []struct {
		name string
		f    api.ModalFrame
		x    api.ModalAfter
		want api.ModalDamage
	}{
		{"the same squares with a half of either", frameOf(1, 1, 4, 2), after(10, to(7, 8), to(52, 53)), damage(0, 2)},
		{"a half of either, the other spring is greater", frameOf(1, 1, 2, 4), after(10, to(4, 7), to(52, 86)), damage(0, 1)},
		{"1 of 2 is more than 3 of 20", frameOf(1, 1, 20, 2), after(10, to(7, 10), to(52, 211)), damage(1, 1)},
		{"1 of 2 is more than 4 of 20", frameOf(1, 1, 2, 20), after(10, to(4, 8), to(52, 406)), damage(0, 1)},
		{"3 of 20 without 1 of 2", frameOf(1, 1, 20, 2), after(10, to(7, 10), to(52, 209)), damage(0, 3)},
		{"2 of 20 without 3", frameOf(1, 1, 20, 2), after(10, to(7, 9), to(52, 209)), damage(0, 2)},
	} {
		d, e := modal.ExplainedBy(x.f, x.x)
		mustBe(t, x.name, d, e, x.want, api.OK)
	}
}

// someAfter returns ranges for a frame that is damaged, or not; some of them are wider, or wrong.
func someAfter(random *rand.Rand, f api.ModalFrame) api.ModalAfter {
	storey := random.IntN(len(f.Masses))
	d := damage(storey, 1+random.IntN(f.Springs[storey]))
	x := enclosuresOf(damagedBy(f, d), 1+random.IntN(api.MaxModalDen))
	by := random.IntN(40)
	for mode, r := range x.Squares {
		x.Squares[mode] = to(max(0, r.Lo-random.IntN(1+by)), r.Hi+random.IntN(1+by))
	}
	if random.IntN(5) == 0 {
		mode := random.IntN(len(x.Squares))
		x.Squares[mode] = to(x.Squares[mode].Hi+3, x.Squares[mode].Hi+4)
	}
	return x
}

// P6.6: the explanation is the best one of all storeys and springs, and each of them is accepted where it explains.
func TestExplainedByHand(t *testing.T) {
	random := fixedRandom()
	none, ties, lesser := 0, 0, 0
	for n := range 1000 {
		f := someFrame(random)
		if n%2 == 0 { // with small springs there are more that are left in the same part
			for i, spring := range f.Springs {
				f.Springs[i] = 1 + spring%4
			}
		}
		x := someAfter(random, f)
		var best api.ModalDamage
		for storey, spring := range f.Springs {
			for left := 1; left <= spring; left++ {
				d := damage(storey, left)
				mode, isUnlike := firstUnlike(damagedBy(f, d), x)
				i, e := modal.CheckDamage(f, x, d)
				if isUnlike {
					mustBe(t, []any{f, x, d}, i, e, mode, api.ErrProof)
					continue
				}
				mustBe(t, []any{f, x, d}, i, e, 0, api.OK)
				own, other := left*f.Springs[best.Storey], best.Left*spring
				if own > other {
					if left < best.Left {
						lesser++
					}
					best = d
				} else if own == other && storey != best.Storey && left < spring {
					ties++
				}
			}
		}
		d, e := modal.ExplainedBy(f, x)
		mustBe(t, []any{f, x}, d, e, best, noneUnless(best.Left > 0))
		if best.Left == 0 {
			none++
		}
	}
	if none < 20 || ties < 5 || lesser < 2 {
		t.Error(none, ties, lesser)
	}
}

// P6.14: the ranges of a frame itself, and wider ones, are explained by the frame as it is.
func TestFrameExplainsItself(t *testing.T) {
	random := fixedRandom()
	for _, f := range someFrames() {
		for _, den := range []int{1, 10, 50} {
			x := enclosuresOf(f, den)
			for range 2 {
				d, e := modal.ExplainedBy(f, x)
				mustBe(t, []any{f, x}, d, e, damage(0, f.Springs[0]), api.OK)
				for mode, r := range x.Squares {
					x.Squares[mode] = to(max(0, r.Lo-random.IntN(9)), r.Hi+random.IntN(9))
				}
			}
		}
	}
}

// P6.6
func TestAfterErrors(t *testing.T) {
	for _, x := range badAfters() {
		d, e := modal.ExplainedBy(exampleFrame(), x.x)
		mustFail(t, x.name, d, e, x.want)
		for _, d := range []api.ModalDamage{damage(0, 1), damage(-1, 0), damage(2, 99)} {
			i, e := modal.CheckDamage(exampleFrame(), x.x, d)
			mustFail(t, x.name, i, e, x.want)
		}
	}
	for _, x := range []api.ModalAfter{after(1, to(0, 0), to(api.MaxModalEnd, api.MaxModalEnd)), after(50, to(0, api.MaxModalEnd), to(0, 0))} {
		d, e := modal.ExplainedBy(exampleFrame(), x)
		mustFail(t, x, d, e, api.ErrNone)
	}
}

// P6.6, example 8
func TestCheckDamage(t *testing.T) {
	clash := after(10, to(0, 2), to(0, 9))
	second := after(10, to(3, 4), to(28, 29))
	for _, x := range []struct {
		name  string
		x     api.ModalAfter
		d     api.ModalDamage
		index int
		e     api.Errno
	}{
		{"example", exampleAfter(), damage(0, 1), 0, api.OK},
		{"as it is", after(10, to(5, 6), to(34, 35)), damage(0, 2), 0, api.OK},
		{"as it is, the other storey", after(10, to(5, 6), to(34, 35)), damage(1, 1), 0, api.OK},
		{"not the best one", after(1, to(0, 9), to(0, 9)), damage(0, 1), 0, api.OK},
		{"nothing is damaged", exampleAfter(), damage(0, 2), 0, api.ErrProof},
		{"both modes", clash, damage(0, 1), 0, api.ErrProof},
		{"the second mode", second, damage(0, 1), 1, api.ErrProof},
		{"below the first storey", clash, damage(-1, 0), 0, api.ErrMissing},
		{"above the top", clash, damage(2, 1), 0, api.ErrMissing},
		{"the greatest storey", second, damage(math.MaxInt, 1), 0, api.ErrMissing},
		{"the smallest storey", second, damage(math.MinInt, 1), 0, api.ErrMissing},
		{"nothing is left", second, damage(0, 0), 0, api.ErrRange},
		{"less is left", second, damage(1, -1), 0, api.ErrRange},
		{"more than there was", second, damage(0, 3), 0, api.ErrRange},
		{"more than there was above", second, damage(1, 2), 0, api.ErrRange},
		{"the greatest spring", second, damage(0, math.MaxInt), 0, api.ErrRange},
		{"the smallest spring", second, damage(1, math.MinInt), 0, api.ErrRange},
	} {
		i, e := modal.CheckDamage(exampleFrame(), x.x, x.d)
		mustBe(t, x.name, i, e, x.index, x.e)
	}
}
