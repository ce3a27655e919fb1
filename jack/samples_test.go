package jack_test

import (
	"math/big"
	"math/rand/v2"
	"slices"
	"testing"

	"ductility/api"
	"ductility/jack"
)

// stays are the limits of the rig of the examples.
const stays = "/-15 15 -15 15 -15 15 -15 15 -15 15 -15 15"

// rigText is the string of the rig of the examples.
const rigText = "1 0 0 0 0 0 -20 20;0 1 0 0 0 0 -20 20;0 0 1 0 0 0 -20 20;0 0 0 1 0 0 -20 20;" +
	"0 0 0 0 1 0 -20 20;0 0 0 0 0 1 -20 20;1 1 0 0 0 0 -20 20;0 0 1 0 0 -1 -20 20" + stays

// pathText is the string of the pieces of the examples.
const pathText = "0 0 0 0 0 0 3 0 0 0 0 0 -1 0 0 0 0 0 4;-4 0 0 0 0 0 -5 0 0 0 0 0 1 0 0 0 0 0 2"

// exampleRig returns the rig of the examples.
func exampleRig() api.JackRig {
	var r api.JackRig
	for _, d := range []api.JackWay{{1}, {0, 1}, {0, 0, 1}, {0, 0, 0, 1}, {0, 0, 0, 0, 1}, {0, 0, 0, 0, 0, 1}, {1, 1}, {0, 0, 1, 0, 0, -1}} {
		r.Jacks = append(r.Jacks, api.JackJack{Direction: d, Stroke: api.Range{Lo: -20, Hi: 20}})
	}
	for i := range r.Limits {
		r.Limits[i] = api.Range{Lo: -15, Hi: 15}
	}
	return r
}

// examplePath returns the pieces of the examples.
func examplePath() []api.JackPiece {
	return []api.JackPiece{
		{Speed: api.JackWay{3}, Half: api.JackWay{-1}, Ticks: 4},
		{From: api.JackWay{-4}, Speed: api.JackWay{-5}, Half: api.JackWay{1}, Ticks: 2},
	}
}

// widestRig returns a rig with the greatest directions, strokes and limits; its determinant is as great as can be.
func widestRig() api.JackRig {
	var r api.JackRig
	for _, d := range []api.JackWay{{2, 2, 2, 2, 2, 2}, {2, -2, 2, -2, 2, -2}, {2, 2, -2, -2, 2, 2}, {2, -2, -2, 2, 2, -2},
		{2, 2, 2, 2, -2, -2}, {2, -2, 2, -2, -2, 2}, {2, 2, -2, -2, -2, -2}, {2, -2, -2, 2, -2, 2}} {
		r.Jacks = append(r.Jacks, api.JackJack{Direction: d, Stroke: api.Range{Lo: -api.MaxJackStroke, Hi: api.MaxJackStroke}})
	}
	for i := range r.Limits {
		r.Limits[i] = api.Range{Lo: -api.MaxJackPose, Hi: api.MaxJackPose}
	}
	return r
}

// fixedRandom returns the same numbers in each run.
func fixedRandom() *rand.Rand { return rand.New(rand.NewPCG(1, 1)) }

// within returns a number of at most so great a size.
func within(random *rand.Rand, size int) int { return random.IntN(2*size+1) - size }

// someWay returns parts of at most so great a size.
func someWay(random *rand.Rand, size int) api.JackWay {
	var w api.JackWay
	for i := range w {
		w[i] = within(random, size)
	}
	return w
}

// someRange returns a range whose ends are at most so great in size.
func someRange(random *rand.Rand, size int) api.Range {
	a, b := within(random, size), within(random, size)
	return api.Range{Lo: min(a, b), Hi: max(a, b)}
}

// someRig returns a rig of so many jacks; its directions have many zeros, so that many of them are dependent.
func someRig(random *rand.Rand, jacks int) api.JackRig {
	var r api.JackRig
	for len(r.Jacks) < jacks {
		d := someWay(random, api.MaxJackPart)
		for i := range d {
			if random.IntN(2) == 0 {
				d[i] = 0
			}
		}
		if d != (api.JackWay{}) {
			r.Jacks = append(r.Jacks, api.JackJack{Direction: d, Stroke: someRange(random, api.MaxJackStroke)})
		}
	}
	for i := range r.Limits {
		r.Limits[i] = someRange(random, api.MaxJackPose)
	}
	return r
}

// someSolidRig returns a rig of six to eight jacks with the rank 6.
func someSolidRig(random *rand.Rand) api.JackRig {
	for {
		r := someRig(random, 6+random.IntN(3))
		if rankByQuotients(r) == 6 {
			return r
		}
	}
}

// someList returns numbers of at most so great a size.
func someList(random *rand.Rand, count, size int) []int {
	l := make([]int, count)
	for i := range l {
		l[i] = within(random, size)
	}
	return l
}

// product returns the sum of the products of parts, as a large number.
func product(a, b api.JackWay) *big.Int {
	sum := new(big.Int)
	for i := range a {
		sum.Add(sum, new(big.Int).Mul(big.NewInt(int64(a[i])), big.NewInt(int64(b[i]))))
	}
	return sum
}

// rankOfRows eliminates with quotients.
func rankOfRows(rows [][]*big.Rat) int {
	rank := 0
	if len(rows) == 0 {
		return 0
	}
	for column := range rows[0] {
		pivot := slices.IndexFunc(rows[rank:], func(row []*big.Rat) bool { return row[column].Sign() != 0 })
		if pivot < 0 {
			continue
		}
		rows[rank], rows[rank+pivot] = rows[rank+pivot], rows[rank]
		for i := rank + 1; i < len(rows); i++ {
			factor := new(big.Rat).Quo(rows[i][column], rows[rank][column])
			for k := range rows[i] {
				rows[i][k] = new(big.Rat).Sub(rows[i][k], new(big.Rat).Mul(factor, rows[rank][k]))
			}
		}
		rank++
		if rank == len(rows) {
			break
		}
	}
	return rank
}

// quotientsOf returns whole numbers as quotients.
func quotientsOf(numbers ...int) []*big.Rat {
	var l []*big.Rat
	for _, n := range numbers {
		l = append(l, big.NewRat(int64(n), 1))
	}
	return l
}

// rankByQuotients returns the rank of a rig.
func rankByQuotients(r api.JackRig) int {
	var rows [][]*big.Rat
	for _, j := range r.Jacks {
		rows = append(rows, quotientsOf(j.Direction[:]...))
	}
	return rankOfRows(rows)
}

// agreeByRanks tells whether the extensions of the jacks that are kept are those of a pose.
func agreeByRanks(r api.JackRig, extensions []int, isKept func(i int) bool) bool {
	var rows, longer [][]*big.Rat
	for i, j := range r.Jacks {
		if isKept(i) {
			rows = append(rows, quotientsOf(j.Direction[:]...))
			longer = append(longer, quotientsOf(append(j.Direction[:], extensions[i])...))
		}
	}
	return rankOfRows(rows) == rankOfRows(longer)
}

// mustExtend returns the extensions for a pose.
func mustExtend(t *testing.T, r api.JackRig, pose api.JackWay) []int {
	t.Helper()
	l, e := jack.ExtensionsOf(r, pose)
	if e != api.OK {
		t.Fatal(r, pose, e)
	}
	return l
}
