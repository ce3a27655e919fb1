package oil_test

import (
	"slices"
	"testing"

	"ductility/api"
	"ductility/oil"
)

// R3: results are overwritten, and everything is as before.
func TestResultsShareNoMemory(t *testing.T) {
	p, class, demands := examplePlant(), exampleClass(), []int{12, 12, 3}
	bottled, _ := oil.Bottles(p, 1)
	bottled.Points[0] = api.OilPoint{Volume: -1}
	_ = append(bottled.Points[:1], api.OilPoint{Volume: -1})
	scaled, _ := oil.Scaled(class, 100)
	scaled[0] = api.Range{Lo: -1}
	run, _ := oil.RunOf(p, still(30), demands)
	reached, _ := oil.ReachedBy(p, still(30), class)
	witness, _ := oil.WitnessOf(p, still(30), class, 166)
	safe, _ := oil.SafeFor(p, api.Range{}, 0)
	run[0], reached[0], witness[0], safe[0] = running(-1), running(-1), -1, running(-1)
	if !areSamePlants(p, examplePlant()) || !slices.Equal(class, exampleClass()) || !slices.Equal(demands, []int{12, 12, 3}) {
		t.Error(p, class, demands)
	}
	if l, _ := oil.WitnessOf(p, still(30), class, 166); !slices.Equal(l, []int{12, 2}) {
		t.Error(l)
	}
}

// R3: no argument is changed.
func TestArgumentsStay(t *testing.T) {
	p, class, valve := examplePlant(), exampleClass(), exampleValve()
	states := []api.OilState{still(29), running(29), still(30), running(30)}
	plantErrors(p)
	oil.ReachedBy(p, still(30), class)
	oil.LowestIn(p, still(30), class)
	oil.ScaleFor(p, still(30), class, 150)
	oil.FewestFor(p, class, 150)
	oil.SafeFor(p, api.Range{Lo: 0, Hi: 2}, 0)
	oil.CheckSafe(p, api.Range{}, 0, states)
	oil.FlowIn(valve, api.Range{Lo: 1, Hi: 2})
	oil.DropFor(valve, 2)
	oil.FormatPlant(p)
	oil.FormatClass(class)
	if !areSamePlants(p, examplePlant()) || !slices.Equal(class, exampleClass()) || !slices.Equal(valve, exampleValve()) {
		t.Error(p, class, valve)
	}
	if !slices.Equal(states, []api.OilState{still(29), running(29), still(30), running(30)}) {
		t.Error(states)
	}
}
