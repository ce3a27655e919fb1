package drive_test

import (
	"slices"
	"testing"

	"ductility/api"
	"ductility/drive"
)

// spoil overwrites rows, and what follows each of them in memory.
func spoil(rows [][]api.Gauss) {
	for i, row := range rows {
		for k := range row[:cap(row)] {
			row[:cap(row)][k] = api.Gauss{Re: -77, Im: 77}
		}
		rows[i] = nil
	}
}

// R3: results are overwritten, one after the other, and everything else is as before.
func TestResultsShareNoMemory(t *testing.T) {
	m, r := rowsOf(1, 1, 0), exampleRig()
	target, start := listOf(10, 0), listOf(0, 0)
	product, _ := drive.ProductOf(m, m)
	inverse, _ := drive.InverseOf(m)
	estimate, _ := drive.Estimated(api.DriveRuns{Inputs: m, Outputs: m})
	response, _ := drive.ResponseOf(m, start)
	correction, _ := drive.CorrectionOf(r, target, start)
	rounds, _ := drive.RoundsOf(r, target, start, 3)
	for _, rows := range [][][]api.Gauss{product, inverse.Rows, estimate.Rows, {response}, {correction}} {
		spoil(rows)
	}
	spoil(rounds[:2])
	if !slices.Equal(rounds[2], listOf(5, 0)) {
		t.Error(rounds)
	}
	mustStay(t, "matrix", m, rowsOf(1, 1, 0))
	mustStay(t, "rig", r, exampleRig())
	mustStay(t, "lists", [][]api.Gauss{target, start}, [][]api.Gauss{listOf(10, 0), listOf(0, 0)})
}

// R3: rows of a result share no memory with each other, even where they are the same, nor with the argument.
func TestRowsShareNoMemory(t *testing.T) {
	product, _ := drive.ProductOf(rowsOf(3, make([]int, 18)...), rowsOf(3, make([]int, 18)...))
	product[0][0].Re = 1
	_ = append(product[0], api.Gauss{Re: 1})
	if !same(product[1:], [][]api.Gauss{make([]api.Gauss, 3), make([]api.Gauss, 3)}) {
		t.Error(product)
	}
	still := exampleRig()
	still.Step = 0
	start := listOf(7, 7)
	rounds, _ := drive.RoundsOf(still, start, start, 2)
	rounds[0][0].Re = 1
	if !slices.Equal(rounds[1], listOf(7, 7)) || !slices.Equal(start, listOf(7, 7)) {
		t.Error(rounds, start)
	}
	p := []int{1, 0, 0, 0}
	table, _ := drive.TableOf(p)
	for i := range table {
		table[i][0] = -1
		_ = append(table[i], -1)
	}
	if !slices.Equal(p, []int{1, 0, 0, 0}) || !sameTable(table, [][]int{{-1, 0, 0, 0}, {-1, 0, 0}, {-1, 0}, {-1}}) {
		t.Error(p, table)
	}
}

// R3: no argument is changed, nor what lies behind it in memory.
func TestArgumentsStay(t *testing.T) {
	m := widestMatrix()
	memory := slices.Concat(m...)
	memory = append(memory, api.Gauss{Re: 5})
	for i := range m {
		m[i] = memory[3*i : 3*i+3]
	}
	want := slices.Clone(memory)
	quotient, _ := drive.InverseOf(m)
	wanted := copied(quotient.Rows)
	list := listOf(1, 2, 3, 4, 5, 6)
	rig := api.DriveRig{Plant: m, Model: m, Gain: api.Frac{Num: 1, Den: 1}, Step: 5}
	drive.DeterminantOf(m)
	drive.ProductOf(m, m)
	drive.CheckInverse(m, quotient)
	drive.SureError(m)
	drive.ResponseOf(m, list)
	drive.CorrectionOf(rig, list, list)
	drive.RoundsOf(rig, list, list, 9)
	drive.ReachedIn(rig, list, list, 0)
	drive.ContractionOf(rig)
	drive.FormatMatrix(m)
	mustStay(t, "matrix", memory, want)
	mustStay(t, "quotient", quotient.Rows, wanted)
	mustStay(t, "list", list, listOf(1, 2, 3, 4, 5, 6))
	r := twoRuns()
	x := api.DriveQuotient{Den: 1, Rows: exampleMatrix()}
	drive.Estimated(r)
	drive.CheckEstimate(r, x)
	drive.CoherenceOf(r, 1)
	mustStay(t, "runs", r, twoRuns())
	mustStay(t, "estimate", x.Rows, exampleMatrix())
	p, l := []int{-4, 4, -2}, exampleLoop()
	drive.TableOf(p)
	drive.IsStable(p)
	drive.FirstUnstable(l)
	drive.MarginOf(l)
	mustStay(t, "polynomial", p, []int{-4, 4, -2})
	mustStay(t, "loop", l, exampleLoop())
}
