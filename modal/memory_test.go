package modal_test

import (
	"slices"
	"testing"

	"ductility/api"
	"ductility/modal"
)

// spoil overwrites a slice, and what follows it in memory.
func spoil[T any](list []T, by T) {
	for i := range list[:cap(list)] {
		list[:cap(list)][i] = by
	}
}

// R3: results share no memory with arguments, nor with each other or with what is returned later.
func TestResultsShareNoMemory(t *testing.T) {
	for range 2 { // what is spoiled in the first round would be seen in the second one
		f, loads := frameOf(1, 1, 1, 1), []int{0, 0}
		coefficients, e := modal.PolynomialOf(f)
		mustBe(t, "polynomial", coefficients, e, []int{1, -3, 1}, api.OK)
		sway, e := modal.SwayOf(f, loads)
		mustBe(t, "sway", sway, e, shapeOf(1, 0, 0), api.OK)
		shape, _, e := modal.ShapeAt(f, frac(1, 1))
		mustBe(t, "shape", shape, e, shapeOf(1, 1, 1), api.OK)
		x := exampleDecay()
		crossings, e := modal.CrossingsIn(x)
		mustBe(t, "crossings", crossings, e, list(to(0, 1), to(4, 6), to(8, 10)), api.OK)
		swings, e := modal.SwingsIn(x)
		mustBe(t, "swings", swings, e, list(to(6, 10), to(3, 7)), api.OK)
		l := list(to(1, 2), to(3, 4))
		pair, e := modal.ContradictionOf(l)
		mustBe(t, "contradiction", pair, e, []int{0, 1}, api.OK)
		damaged, e := modal.DamagedIn(l, list(to(3, 4), to(1, 2)))
		mustBe(t, "damaged", damaged, e, []int{0, 1}, api.OK)
		parsed, e := modal.ParseFrame("1 1;1 1")
		mustBe(t, "parsed frame", parsed, e, f, api.OK)
		decay, e := modal.ParseDecay(decayText)
		mustBe(t, "parsed decay", decay, e, x, api.OK)
		for _, numbers := range [][]int{coefficients, sway.Parts, shape.Parts, pair, damaged, parsed.Masses, decay.Samples} {
			spoil(numbers, -77)
		}
		spoil(crossings, to(-77, 77))
		spoil(swings, to(-77, 77))
		mustStay(t, "springs", parsed.Springs, []int{1, 1})
		mustStay(t, "frame", f, frameOf(1, 1, 1, 1))
		mustStay(t, "loads", loads, []int{0, 0})
		mustStay(t, "decay", x, exampleDecay())
		mustStay(t, "ranges", l, list(to(1, 2), to(3, 4)))
	}
}

// R3: no argument is changed, nor what lies behind it in memory.
func TestArgumentsStay(t *testing.T) {
	memory := []int{1, 1, 2, 1, 5, 6, -1, 1, 3, 9, 9}
	want := slices.Clone(memory)
	f := api.ModalFrame{Masses: memory[:2], Springs: memory[2:4]}
	loads, decay := memory[4:6], api.ModalDecay{Samples: memory[6:9]}
	ranges := list(to(3, 4), to(26, 28), to(0, 0), to(9, 9))
	x := api.ModalAfter{Den: 10, Squares: ranges[:2]}
	modal.CheckFrame(f)
	modal.PolynomialOf(f)
	modal.CountBelow(f, frac(1, 1))
	modal.IsMode(f, frac(1, 1))
	modal.EnclosureOf(f, 1, 10)
	modal.SumOf(f)
	modal.SwayOf(f, loads)
	modal.ShapeAt(f, frac(1, 2))
	modal.NodesOf(loads)
	modal.CrossingsIn(decay)
	modal.PeriodIn(decay)
	modal.SwingsIn(decay)
	modal.RatioIn(decay)
	modal.AgreedIn(ranges[:3])
	modal.ContradictionOf(ranges[:3])
	modal.DamagedIn(ranges[:2], ranges[2:])
	modal.ExplainedBy(f, x)
	modal.CheckDamage(f, x, damage(0, 1))
	modal.FormatFrame(f)
	modal.FormatDecay(decay)
	mustStay(t, "numbers", memory, want)
	mustStay(t, "ranges", ranges, list(to(3, 4), to(26, 28), to(0, 0), to(9, 9)))
}

// R5: nil and empty slices are the same.
func TestNilAndEmpty(t *testing.T) {
	empty := api.ModalFrame{Masses: []int{}, Springs: []int{}}
	if modal.FormatFrame(empty) != modal.FormatFrame(api.ModalFrame{}) || modal.FormatDecay(decayOf(3, []int{}...)) != modal.FormatDecay(decayOf(3)) {
		t.Error("strings")
	}
	for _, none := range [][]int{nil, {}} {
		sway, e := modal.SwayOf(exampleFrame(), none)
		mustFail(t, "sway", sway, e, api.ErrShape)
	}
}
