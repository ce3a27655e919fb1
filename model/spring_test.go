package model_test

import (
	"slices"
	"testing"

	"ductility/api"
	"ductility/model"
)

// P5.3
func TestCheckSpring(t *testing.T) {
	for _, l := range goodSprings() {
		if i, e := model.CheckSpring(l); i != 0 || e != api.OK {
			t.Error(l, i, e)
		}
	}
	for _, x := range badSprings() {
		if i, e := model.CheckSpring(x.l); i != x.index || e != x.want {
			t.Error(x.name, i, e)
		}
	}
}

// P5.3
func TestCheckHold(t *testing.T) {
	for _, h := range goodHolds() {
		if i, e := model.CheckHold(exampleSpring(), h); i != 0 || e != api.OK {
			t.Error(h, i, e)
		}
	}
	for _, x := range badHolds() {
		if i, e := model.CheckHold(exampleSpring(), x.h); i != x.index || e != x.want {
			t.Error(x.name, i, e)
		}
	}
	for _, x := range badSprings() {
		if i, e := model.CheckHold(x.l, holdOf(10001)); i != x.index || e != x.want {
			t.Error("its spring", x.name, i, e)
		}
	}
	if i, e := model.CheckHold(springOf(ductile(1, 1), ductile(1, 1)), holdOf(0, slipped(2), broken())); i != 0 || e != api.ErrBreak {
		t.Error("all errors of the first element come first", i, e)
	}
}

// mustFail reports all functions of a spring, a hold and a position that have another error, or a result.
func mustFail(t *testing.T, name string, l []api.ModelElement, h api.ModelHold, at int, want api.Errno) {
	t.Helper()
	if x, e := model.MovedTo(l, h, at); !isNothing(x) || e != want {
		t.Error("MovedTo", name, x, e)
	}
	if x, e := model.WorkTo(l, h, at); !isNothing(x) || e != want {
		t.Error("WorkTo", name, x, e)
	}
}

// P5.3: the errors of the spring come before those of the hold, and these before that of the position.
func TestHoldErrors(t *testing.T) {
	for _, x := range badSprings() {
		mustFail(t, x.name, x.l, holdOf(10001), 10001, x.want)
		if n, e := model.ForceOf(x.l, holdOf(10001)); n != 0 || e != x.want {
			t.Error("ForceOf", x.name, n, e)
		}
		if n, e := model.EnergyOf(x.l, holdOf(10001)); n != 0 || e != x.want {
			t.Error("EnergyOf", x.name, n, e)
		}
		if n, e := model.BackboneAt(x.l, 10001); n != 0 || e != x.want {
			t.Error("BackboneAt", x.name, n, e)
		}
	}
	for _, x := range badHolds() {
		mustFail(t, x.name, exampleSpring(), x.h, 0, x.want)
		mustFail(t, x.name+", position", exampleSpring(), x.h, 10001, x.want)
		if n, e := model.ForceOf(exampleSpring(), x.h); n != 0 || e != x.want {
			t.Error("ForceOf", x.name, n, e)
		}
		if n, e := model.EnergyOf(exampleSpring(), x.h); n != 0 || e != x.want {
			t.Error("EnergyOf", x.name, n, e)
		}
	}
	for _, at := range badPlaces() {
		mustFail(t, "position", exampleSpring(), goodHolds()[1], at, api.ErrRange)
		if n, e := model.BackboneAt(exampleSpring(), at); n != 0 || e != api.ErrRange {
			t.Error("BackboneAt", at, n, e)
		}
	}
}

// P5.3, example 3 and edge cases
func TestMoves(t *testing.T) {
	great := greatFrame().Floors[0].Spring
	four := slices.Repeat([]api.ModelSlip{slipped(0)}, 4)
	for _, x := range []struct {
		name          string
		l             []api.ModelElement
		from          api.ModelHold
		at            int
		to            api.ModelHold
		work          api.ModelWork
		force, energy int
	}{
		{"example", exampleSpring(), holdOf(0, slipped(0), slipped(0)), 3, holdOf(3, slipped(1), slipped(0)), api.ModelWork{Work: 125, Loss: 40}, 35, 85},
		{"then to 5", exampleSpring(), holdOf(3, slipped(1), slipped(0)), 5, holdOf(5, slipped(3), broken()), api.ModelWork{Work: 115, Loss: 160}, 20, 40},
		{"back to 1", exampleSpring(), holdOf(5, slipped(3), broken()), 1, holdOf(1, slipped(3), broken()), api.ModelWork{}, -20, 40},
		{"where it is", exampleSpring(), holdOf(3, slipped(1), slipped(0)), 3, holdOf(3, slipped(1), slipped(0)), api.ModelWork{}, 35, 85},
		{"where it is, broken", exampleSpring(), holdOf(-5, slipped(-3), broken()), -5, holdOf(-5, slipped(-3), broken()), api.ModelWork{}, -20, 40},
		{"exactly the yield", exampleSpring(), holdOf(0, slipped(0), slipped(0)), 2, holdOf(2, slipped(0), slipped(0)), api.ModelWork{Work: 60}, 30, 60},
		{"exactly the other yield", exampleSpring(), holdOf(0, slipped(0), slipped(0)), 4, holdOf(4, slipped(2), slipped(0)), api.ModelWork{Work: 200, Loss: 80}, 40, 120},
		{"exactly the yield below", exampleSpring(), holdOf(0, slipped(0), slipped(0)), -4, holdOf(-4, slipped(-2), slipped(0)), api.ModelWork{Work: 200, Loss: 80}, -40, 120},
		{"broken below", exampleSpring(), holdOf(0, slipped(0), slipped(0)), -5, holdOf(-5, slipped(-3), broken()), api.ModelWork{Work: 240, Loss: 200}, -20, 40},
		{"broken, back where it began", exampleSpring(), holdOf(5, slipped(3), broken()), 0, holdOf(0, slipped(2), broken()), api.ModelWork{Work: 40, Loss: 40}, -20, 40},
		{"from the slip on", springOf(ductile(3, 2)), holdOf(7, slipped(7)), 8, holdOf(8, slipped(7)), api.ModelWork{Work: 3}, 3, 3},
		{"through 0", springOf(ductile(1, 5)), holdOf(5, slipped(0)), -6, holdOf(-6, slipped(-1)), api.ModelWork{Work: 10, Loss: 10}, -5, 25},
		{"brittle through 0", springOf(brittle(2, 5)), holdOf(5, slipped(0)), -5, holdOf(-5, slipped(0)), api.ModelWork{}, -10, 50},
		{"broken from the other end", springOf(brittle(2, 5)), holdOf(5, slipped(0)), -6, holdOf(-6, broken()), api.ModelWork{Work: 0, Loss: 50}, 0, 0},
		{"broken stays so", springOf(brittle(2, 5)), holdOf(9, broken()), 0, holdOf(0, broken()), api.ModelWork{}, 0, 0},
		{"the greatest force", great, holdOf(0, four...), 1000, holdOf(1000, four...), api.ModelWork{Work: 4000000000}, 4000000, 4000000000},
		{"the longest way", great, holdOf(-10000, slipped(-10000), slipped(-9000), broken(), slipped(-10000)), 10000, holdOf(10000, slipped(9000), slipped(9000), broken(), slipped(9000)),
			api.ModelWork{Work: 112000000000 + 2000000000, Loss: 112000000000}, 3000000, 3000000000},
	} {
		if h, e := model.MovedTo(x.l, x.from, x.at); !areSame(h, x.to) || e != api.OK {
			t.Error("MovedTo", x.name, h, e)
		}
		if w, e := model.WorkTo(x.l, x.from, x.at); w != x.work || e != api.OK {
			t.Error("WorkTo", x.name, w, e)
		}
		if n, e := model.ForceOf(x.l, x.to); n != x.force || e != api.OK {
			t.Error("ForceOf", x.name, n, e)
		}
		if n, e := model.EnergyOf(x.l, x.to); n != x.energy || e != api.OK {
			t.Error("EnergyOf", x.name, n, e)
		}
	}
}

// P5.3, example 4
func TestBackbone(t *testing.T) {
	for at, want := range map[int]int{0: 0, 1: 15, 2: 30, 3: 35, 4: 40, 5: 20, 10000: 20, -1: -15, -4: -40, -5: -20, -10000: -20} {
		if n, e := model.BackboneAt(exampleSpring(), at); n != want || e != api.OK {
			t.Error(at, n, e)
		}
	}
}

// bar is an element that is moved by hand: the force and the energy of its stretch, and how it yields.
type bar struct {
	api.ModelElement
	stretch  int
	isBroken bool
}

// step moves a bar by 1 or -1, and returns the doubled work and loss.
func (b *bar) step(by int) (int, int) {
	next := b.stretch + by
	if b.isBroken {
		return 0, 0
	}
	if max(next, -next) <= b.Yield {
		work := b.Stiffness * (next*next - b.stretch*b.stretch)
		b.stretch = next
		return work, 0
	}
	if b.Brittle {
		b.isBroken = true
		return 0, b.Stiffness * b.Yield * b.Yield
	}
	slide := 2 * b.Stiffness * b.Yield
	return slide, slide
}

// barsOf returns the bars of a spring in a hold.
func barsOf(l []api.ModelElement, h api.ModelHold) []bar {
	var bars []bar
	for i, x := range h.Slips {
		bars = append(bars, bar{l[i], h.At - x.Slip, x.Broken})
	}
	return bars
}

// moveByHand moves a spring by single steps, and returns the hold with the doubled work and loss.
func moveByHand(l []api.ModelElement, h api.ModelHold, at int) (api.ModelHold, api.ModelWork) {
	bars := barsOf(l, h)
	var sum api.ModelWork
	for place := h.At; place != at; {
		by := 1
		if at < place {
			by = -1
		}
		place += by
		for i := range bars {
			work, loss := bars[i].step(by)
			sum.Work += work
			sum.Loss += loss
		}
	}
	moved := api.ModelHold{At: at}
	for _, b := range bars {
		x := api.ModelSlip{Slip: at - b.stretch}
		if b.isBroken {
			x = broken()
		}
		moved.Slips = append(moved.Slips, x)
	}
	return moved, sum
}

// begin returns the hold of a spring at the beginning.
func begin(l []api.ModelElement) api.ModelHold {
	return api.ModelHold{Slips: make([]api.ModelSlip, len(l))}
}

// P5.3, P5.9, P5.10
func TestMovesByHand(t *testing.T) {
	random := fixedRandom()
	breaks := 0
	for range 500 {
		l := someSpring(random, 15)
		h := begin(l)
		for range 20 {
			at := within(random, 40)
			want, wantWork := moveByHand(l, h, at)
			moved, e := model.MovedTo(l, h, at)
			if !areSame(moved, want) || e != api.OK {
				t.Fatal(l, h, at, moved, want, e)
			}
			work, e := model.WorkTo(l, h, at)
			if work != wantWork || work.Loss < 0 || e != api.OK {
				t.Fatal(l, h, at, work, wantWork, e)
			}
			if i, e := model.CheckHold(l, moved); i != 0 || e != api.OK {
				t.Fatal(l, moved, i, e)
			}
			force, energy := 0, 0
			for i, b := range barsOf(l, moved) {
				if h.Slips[i].Broken && !b.isBroken {
					t.Fatal(l, h, moved)
				}
				if b.isBroken {
					breaks++
					continue
				}
				force += b.Stiffness * b.stretch
				energy += b.Stiffness * b.stretch * b.stretch
			}
			n, forceError := model.ForceOf(l, moved)
			after, energyError := model.EnergyOf(l, moved)
			before, _ := model.EnergyOf(l, h)
			if n != force || after != energy || firstOf(forceError, energyError) != api.OK {
				t.Fatal(l, moved, n, force, after, energy)
			}
			if work.Work != after-before+work.Loss {
				t.Fatal(l, h, at, work, before, after)
			}
			h = moved
		}
	}
	if breaks == 0 {
		t.Error("nothing breaks")
	}
}

// firstOf returns the first of several errors.
func firstOf(errors ...api.Errno) api.Errno {
	for _, e := range errors {
		if e != api.OK {
			return e
		}
	}
	return api.OK
}

// P5.10: a move in two parts in one direction.
func TestMovesInTwoParts(t *testing.T) {
	random := fixedRandom()
	for range 2000 {
		l := someSpring(random, 15)
		h, _ := model.MovedTo(l, begin(l), within(random, 30))
		at := within(random, 60)
		between := h.At
		if way := at - h.At; way > 0 {
			between += random.IntN(way + 1)
		} else {
			between -= random.IntN(1 - way)
		}
		part, _ := model.MovedTo(l, h, between)
		first, _ := model.WorkTo(l, h, between)
		second, _ := model.WorkTo(l, part, at)
		two, _ := model.MovedTo(l, part, at)
		one, e := model.MovedTo(l, h, at)
		work, _ := model.WorkTo(l, h, at)
		if !areSame(one, two) || e != api.OK || work.Work != first.Work+second.Work || work.Loss != first.Loss+second.Loss {
			t.Fatal(l, h, between, at, one, two, work, first, second)
		}
	}
}

// P5.9: there and back without slip and cracks.
func TestMovesThereAndBack(t *testing.T) {
	random := fixedRandom()
	held := 0
	for range 2000 {
		l := someSpring(random, 30)
		h, _ := model.MovedTo(l, begin(l), within(random, 20))
		at := within(random, 20)
		there, e := model.MovedTo(l, h, at)
		if e != api.OK || !slices.Equal(there.Slips, h.Slips) {
			continue
		}
		held++
		out, _ := model.WorkTo(l, h, at)
		back, _ := model.WorkTo(l, there, h.At)
		if out.Work+back.Work != 0 || out.Loss != 0 || back.Loss != 0 {
			t.Fatal(l, h, at, out, back)
		}
	}
	if held < 100 {
		t.Error(held)
	}
}

// P5.3: the backbone is the force after one move from the beginning.
func TestBackboneByMoves(t *testing.T) {
	random := fixedRandom()
	for range 1000 {
		l, at := someSpring(random, 1+random.IntN(1000)), within(random, 1200)
		h, _ := model.MovedTo(l, begin(l), at)
		want, _ := model.ForceOf(l, h)
		if n, e := model.BackboneAt(l, at); n != want || e != api.OK {
			t.Fatal(l, at, n, want, e)
		}
	}
}
