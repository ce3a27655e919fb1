package hybrid_test

import (
	"slices"
	"sync"
	"testing"

	"ductility/api"
	"ductility/hybrid"
)

// spoil overwrites a slice, and what follows it in memory.
func spoil[T any](list []T, by T) {
	for i := range list[:cap(list)] {
		list[:cap(list)][i] = by
	}
}

// R3: results share no memory with arguments, nor with each other or with what is returned later.
func TestResultsShareNoMemory(t *testing.T) {
	for range 2 { // what is spoiled in the first round would be seen in the second one
		s, forces, l, c := []int{2, 2, 0}, []int{8, 0, 0}, exampleMessages(), exampleChain()
		next, e := hybrid.NextOf(exampleTest(), s, 0)
		mustBe(t, "next", next, e, []int{0, 2, 2}, api.OK)
		run, e := hybrid.RunOf(exampleTest(), forces)
		mustBe(t, "run", run, e, []int{0, 2, 2, 0}, api.OK)
		broken, e := hybrid.BrokenBy(exampleTest())
		mustBe(t, "broken", broken, e, []int{8, 6}, api.OK)
		late, e := hybrid.LateIn(l, clock(5, 40))
		mustBe(t, "late", late, e, []int{1, 2}, api.OK)
		for _, numbers := range [][]int{next, run, broken, late} {
			spoil(numbers, -77)
		}
		mustStay(t, "state", s, []int{2, 2, 0})
		mustStay(t, "forces", forces, []int{8, 0, 0})
		parsed, e := hybrid.ParseMessages(messagesText)
		mustBe(t, "parsed", parsed, e, l[:2], api.OK)
		spoil(parsed, api.HybridMessage{Kind: -77})
		mustStay(t, "messages", l, exampleMessages())
		moved, e := hybrid.MovedOf(c)
		mustBe(t, "moved", moved, e, wholes(5, 6), api.OK)
		spoil(moved, frac(-77, 77))
		halves, e := hybrid.HalvesOf(c, 0)
		mustBe(t, "halves", halves, e, halvesOf(wholes(5), wholes(6), 4), api.OK)
		spoil(halves.Lower, frac(-77, 77))
		mustStay(t, "the other half", halves.Upper, wholes(6))
		spoil(halves.Upper, frac(-77, 77))
		mustStay(t, "chain", c, exampleChain())
	}
}

// R3: reached states share no memory with each other.
func TestReachedStatesShareNoMemory(t *testing.T) {
	for range 2 { // what is spoiled in the first round would be seen in the second one
		reached, e := hybrid.ReachedBy(followingTest(to(0, 1)))
		mustBe(t, "reached", reached, e, closedExample(), api.OK)
		for i := range reached {
			spoil(reached[i], -77)
			mustStay(t, "the states behind", reached[i+1:], closedExample()[i+1:])
		}
		spoil(reached, nil)
	}
}

// R3: no argument is changed, nor what lies behind it in memory.
func TestArgumentsStay(t *testing.T) {
	memory := []int{2, 2, 0, 8, 0, 0, 77, 77}
	s, forces := memory[:3], memory[3:6]
	states := append(closedExample(), []int{77, 77})
	l := append(exampleMessages(), messagesOf(77, 77, 77)...)
	c := chainOf(2, 6, 4, 4, 77, 77)
	short := api.HybridChain{Stiffness: c.Stiffness[:2], Forces: c.Forces[:2]}
	lower, upper := wholes(5, 77, 77), wholes(6, 77, 77)
	h := halvesOf(lower[:1], upper[:1], 4)
	hybrid.CheckState(exampleTest(), s)
	hybrid.CommandOf(exampleTest(), s)
	hybrid.ActuatorsAt(exampleTest(), s)
	hybrid.NextOf(exampleTest(), s, 0)
	hybrid.RunOf(exampleTest(), forces)
	hybrid.ErrorOf(exampleTest(), forces, 1)
	for _, count := range []int{1, 3, 4} {
		hybrid.CheckClosed(followingTest(to(0, 1)), states[:count])
	}
	hybrid.CheckMessages(l[:5])
	hybrid.LateIn(l[:5], clock(5, 40))
	hybrid.HeldAt(l[:5], clock(5, 40))
	hybrid.CountIn(l[:5], clock(5, 40))
	hybrid.FormatMessages(l[:5])
	hybrid.CheckChain(short)
	hybrid.MovedOf(short)
	hybrid.StiffnessOf(short)
	for node := range 2 {
		hybrid.HalvesOf(short, node)
		hybrid.CheckHalves(short, node, h)
	}
	index, e := hybrid.CheckHalves(short, 0, h)
	mustBe(t, "halves", index, e, 0, api.OK)
	mustStay(t, "numbers", memory, []int{2, 2, 0, 8, 0, 0, 77, 77})
	mustStay(t, "states", states, append(closedExample(), []int{77, 77}))
	mustStay(t, "messages", l, append(exampleMessages(), messagesOf(77, 77, 77)...))
	mustStay(t, "chain", c, chainOf(2, 6, 4, 4, 77, 77))
	mustStay(t, "lower", lower, wholes(5, 77, 77))
	mustStay(t, "upper", upper, wholes(6, 77, 77))
}

// R3: arguments may be the same memory.
func TestSharedArguments(t *testing.T) {
	one := []int{4, 4}
	c := api.HybridChain{Stiffness: one, Forces: one}
	halves, e := hybrid.HalvesOf(c, 0)
	mustBe(t, "halves", halves, e, halvesOf(wholes(2), wholes(3), 4), api.OK)
	mustStay(t, "chain", one, []int{4, 4})
	moved := wholes(2, 3)
	index, e := hybrid.CheckHalves(c, 0, halvesOf(moved[:1], moved[1:], 4))
	mustBe(t, "halves", index, e, 0, api.OK)
}

// R4: calls at the same time have the same results.
func TestAtTheSameTime(t *testing.T) {
	x := calmTest(fixedRandom())
	want, _ := hybrid.ReachedBy(x)
	var group sync.WaitGroup
	results := make([][][]int, 8)
	for i := range results {
		group.Go(func() { results[i], _ = hybrid.ReachedBy(x) })
	}
	group.Wait()
	for _, is := range results {
		mustStay(t, "reached", is, want)
	}
}

// R5: nil and empty slices are the same.
func TestNilAndEmpty(t *testing.T) {
	for _, none := range [][]int{nil, {}} {
		if e := hybrid.CheckState(exampleTest(), none); e != api.ErrShape {
			t.Error(e)
		}
		run, e := hybrid.RunOf(exampleTest(), none)
		mustBe(t, "run", run, e, []int{0}, api.OK)
		for _, other := range [][]int{nil, {}} {
			index, e := hybrid.CheckChain(api.HybridChain{Stiffness: none, Forces: other})
			mustFail(t, "chain", index, e, api.ErrShape)
		}
	}
	for _, none := range [][]api.HybridMessage{nil, {}} {
		late, e := hybrid.LateIn(none, clock(0, 5))
		mustFail(t, "late", late, e, api.OK)
	}
	for _, none := range [][]api.Frac{nil, {}} {
		index, e := hybrid.CheckHalves(exampleChain(), 1, halvesOf(wholes(5, 6), none, 0))
		mustBe(t, "halves", index, e, 0, api.OK)
		index, e = hybrid.CheckHalves(exampleChain(), 0, halvesOf(none, slices.Clone(none), 0))
		mustFail(t, "halves", index, e, api.ErrShape)
	}
}
