package jack_test

import (
	"math"
	"math/big"
	"math/rand/v2"
	"slices"
	"testing"

	"ductility/api"
	"ductility/jack"
)

// fraction returns a fraction as it is given.
func fraction(num, den int) api.Frac { return api.Frac{Num: num, Den: den} }

// span returns a span between whole numbers.
func span(lo, hi int) api.Span { return api.Span{Lo: fraction(lo, 1), Hi: fraction(hi, 1)} }

// rest is a piece that does not move.
func rest(ticks int) api.JackPiece { return api.JackPiece{From: api.JackWay{7, -7}, Ticks: ticks} }

// P1.5
func TestPieceErrors(t *testing.T) {
	nine := slices.Repeat([]api.JackPiece{rest(1)}, 9)
	nine[0].Ticks = 0
	for _, x := range []struct {
		name   string
		pieces []api.JackPiece
		index  int
		want   api.Errno
	}{
		{"none", nil, 0, api.ErrShape},
		{"empty", []api.JackPiece{}, 0, api.ErrShape},
		{"nine", nine, 0, api.ErrLarge},
		{"eight", nine[1:], 0, api.OK},
		{"greatest", []api.JackPiece{{From: api.JackWay{1000, -1000}, Speed: api.JackWay{100, -100}, Half: api.JackWay{-100, 100}, Ticks: 100}}, 0, api.OK},
		{"no ticks", []api.JackPiece{rest(1), rest(0)}, 1, api.ErrRange},
		{"ticks below", []api.JackPiece{rest(-1), rest(0)}, 0, api.ErrRange},
		{"ticks above", []api.JackPiece{rest(100), rest(101)}, 1, api.ErrRange},
		{"from above", []api.JackPiece{{From: api.JackWay{1001}, Ticks: 1}}, 0, api.ErrRange},
		{"from below", []api.JackPiece{{From: api.JackWay{0, 0, 0, 0, 0, math.MinInt}, Ticks: 1}}, 0, api.ErrRange},
		{"speed above", []api.JackPiece{{Speed: api.JackWay{101}, Ticks: 1}}, 0, api.ErrRange},
		{"speed below", []api.JackPiece{{Speed: api.JackWay{0, 0, -101}, Ticks: 1}}, 0, api.ErrRange},
		{"half above", []api.JackPiece{{Half: api.JackWay{101}, Ticks: 1}}, 0, api.ErrRange},
		{"half below", []api.JackPiece{{Half: api.JackWay{0, -101}, Ticks: 1}}, 0, api.ErrRange},
		{"range before break", []api.JackPiece{rest(1), {From: api.JackWay{1001}, Ticks: 1}}, 1, api.ErrRange},
		{"break of places before the next range", []api.JackPiece{rest(1), {Ticks: 1}, rest(0)}, 1, api.ErrBreak},
		{"break of speeds", []api.JackPiece{rest(1), rest(1), {From: api.JackWay{7, -7}, Speed: api.JackWay{0, 0, 0, 0, 0, 1}, Ticks: 1}}, 2, api.ErrBreak},
		{"other halves", []api.JackPiece{rest(1), {From: api.JackWay{7, -7}, Half: api.JackWay{1}, Ticks: 1}}, 0, api.OK},
	} {
		if i, e := jack.CheckPieces(x.pieces); i != x.index || e != x.want {
			t.Error(x.name, i, e)
		}
		if p, e := jack.PoseAt(x.pieces, -1); p != (api.JackWay{}) || e != x.want && (x.want != api.OK || e != api.ErrMissing) {
			t.Error(x.name, p, e)
		}
		if x.want == api.OK {
			continue
		}
		if o, e := jack.FirstOut(exampleRig(), x.pieces); o != [2]int{} || e != x.want {
			t.Error(x.name, o, e)
		}
		if s, e := jack.SpansOf(exampleRig(), append(x.pieces, api.JackPiece{})[0]); len(x.pieces) == 1 && (len(s) != 0 || e != x.want) {
			t.Error(x.name, s, e)
		}
	}
}

// P1.5, example 6
func TestJoinedPieces(t *testing.T) {
	if i, e := jack.CheckPieces(examplePath()); i != 0 || e != api.OK {
		t.Error(i, e)
	}
	for name, change := range map[string]func(x *api.JackPiece){
		"place":         func(x *api.JackPiece) { x.From[0]++ },
		"another place": func(x *api.JackPiece) { x.From[5]++ },
		"speed":         func(x *api.JackPiece) { x.Speed[0]++ },
	} {
		path := examplePath()
		change(&path[1])
		if i, e := jack.CheckPieces(path); i != 1 || e != api.ErrBreak {
			t.Error(name, i, e)
		}
	}
}

// P1.5, example 6
func TestPosesOnPaths(t *testing.T) {
	for tick, want := range []int{0, 2, 2, 0, -4, -8, -10} {
		if p, e := jack.PoseAt(examplePath(), tick); p != (api.JackWay{want}) || e != api.OK {
			t.Error(tick, p, e)
		}
	}
	for _, tick := range []int{-1, 7, math.MinInt, math.MaxInt} {
		if p, e := jack.PoseAt(examplePath(), tick); p != (api.JackWay{}) || e != api.ErrMissing {
			t.Error(tick, p, e)
		}
	}
	far := []api.JackPiece{{From: api.JackWay{1000}, Speed: api.JackWay{100}, Half: api.JackWay{100}, Ticks: 100}}
	if p, e := jack.PoseAt(far, 100); p != (api.JackWay{1011000}) || e != api.OK {
		t.Error("limits of poses do not apply to results", p, e)
	}
}

// P1.5, example 6
func TestSpans(t *testing.T) {
	r, path := exampleRig(), examplePath()
	first := api.Span{Lo: fraction(-4, 1), Hi: fraction(9, 4)}
	want := slices.Repeat([]api.Span{span(0, 0)}, 14)
	want[0], want[6], want[8] = first, first, first
	if l, e := jack.SpansOf(r, path[0]); !slices.Equal(l, want) || e != api.OK {
		t.Error(l, e)
	}
	want[0], want[6], want[8] = span(-10, -4), span(-10, -4), span(-10, -4)
	if l, e := jack.SpansOf(r, path[1]); !slices.Equal(l, want) || e != api.OK {
		t.Error(l, e)
	}
	if l, e := jack.SpansOf(r, rest(50)); len(l) != 14 || l[0] != span(7, 7) || l[1] != span(-7, -7) || l[6] != span(0, 0) || e != api.OK {
		t.Error("it does not move", l, e)
	}
}

// P1.5: one quantity of a piece, with the other ones at rest.
func TestTurns(t *testing.T) {
	r := exampleRig()
	for _, x := range []struct {
		name                     string
		from, speed, half, ticks int
		want                     api.Span
	}{
		{"straight on", 1, 2, 0, 3, span(1, 7)},
		{"straight back", 1, -2, 0, 3, span(-5, 1)},
		{"from rest on", 1, 0, 2, 3, span(1, 19)},
		{"up to rest at the end", 0, 4, -1, 2, span(0, 4)},
		{"down to rest at the end", 0, -4, 1, 2, span(-4, 0)},
		{"a turn at a whole tick", 0, 4, -1, 3, span(0, 4)},
		{"a turn below", 0, -3, 1, 4, api.Span{Lo: fraction(-9, 4), Hi: fraction(4, 1)}},
		{"a turn below 0 in lowest terms", 0, -2, 3, 1, api.Span{Lo: fraction(-1, 3), Hi: fraction(1, 1)}},
		{"a turn before the beginning", 0, 3, 1, 4, span(0, 28)},
		{"a turn after the end", 0, -9, 1, 4, span(-20, 0)},
		{"back to the beginning", 5, 3, -1, 3, api.Span{Lo: fraction(5, 1), Hi: fraction(29, 4)}},
		{"the greatest", 1000, 99, -100, 100, api.Span{Lo: fraction(-989100, 1), Hi: fraction(409801, 400)}},
	} {
		piece := api.JackPiece{From: api.JackWay{2: x.from}, Speed: api.JackWay{2: x.speed}, Half: api.JackWay{2: x.half}, Ticks: x.ticks}
		if l, e := jack.SpansOf(r, piece); len(l) != 14 || l[2] != x.want || l[10] != x.want || e != api.OK {
			t.Error(x.name, l, e)
		}
	}
}

// P1.5, example 7
func TestFirstOut(t *testing.T) {
	path := examplePath()
	for _, x := range []struct {
		name   string
		change func(r *api.JackRig)
		out    [2]int
		want   api.Errno
	}{
		{"none", func(r *api.JackRig) {}, [2]int{}, api.ErrNone},
		{"between ticks", func(r *api.JackRig) { r.Jacks[0].Stroke = api.Range{Lo: -10, Hi: 2} }, [2]int{0, 0}, api.OK},
		{"at the ends of the stroke", func(r *api.JackRig) { r.Jacks[0].Stroke = api.Range{Lo: -10, Hi: 3} }, [2]int{}, api.ErrNone},
		{"below, in the second piece", func(r *api.JackRig) { r.Jacks[0].Stroke = api.Range{Lo: -9, Hi: 3} }, [2]int{1, 0}, api.OK},
		{"a part", func(r *api.JackRig) { r.Limits[0] = api.Range{Lo: -9, Hi: 3} }, [2]int{1, 8}, api.OK},
		{"the first piece before the first jack", func(r *api.JackRig) { r.Jacks[0].Stroke.Lo = -9; r.Limits[0].Hi = 2 }, [2]int{0, 8}, api.OK},
		{"the first quantity", func(r *api.JackRig) { r.Jacks[6].Stroke.Hi = 2; r.Limits[0].Hi = 2 }, [2]int{0, 6}, api.OK},
		{"the last part, which does not move", func(r *api.JackRig) { r.Limits[5] = api.Range{Lo: 1, Hi: 2} }, [2]int{0, 13}, api.OK},
	} {
		r := exampleRig()
		x.change(&r)
		if o, e := jack.FirstOut(r, path); o != x.out || e != x.want {
			t.Error(x.name, o, e)
		}
	}
}

// somePiece returns a piece without error.
func somePiece(random *rand.Rand) api.JackPiece {
	return api.JackPiece{From: someWay(random, 100), Speed: someWay(random, 20), Half: someWay(random, 3), Ticks: 1 + random.IntN(10)}
}

// quantityAt returns a quantity at the time part / parts, times the square of parts.
func quantityAt(direction api.JackWay, x api.JackPiece, part, parts int) *big.Int {
	times := func(w api.JackWay, n int) *big.Int {
		return new(big.Int).Mul(product(w, direction), big.NewInt(int64(n)))
	}
	sum := times(x.From, parts*parts)
	sum.Add(sum, times(x.Speed, part*parts))
	return sum.Add(sum, times(x.Half, part*part))
}

// P1.11: the spans contain the values at all twelfths of ticks, and reach no further than a turn between two of them may.
func TestSpansContainPoses(t *testing.T) {
	const parts = 12
	random := fixedRandom()
	for range 200 {
		r, x := someRig(random, 1+random.IntN(8)), somePiece(random)
		spans, e := jack.SpansOf(r, x)
		if e != api.OK {
			t.Fatal(r, x, e)
		}
		for i, s := range spans {
			direction := api.JackWay{}
			if i < len(r.Jacks) {
				direction = r.Jacks[i].Direction
			} else {
				direction[i-len(r.Jacks)] = 1
			}
			lo, hi := big.NewRat(int64(s.Lo.Num), int64(s.Lo.Den)), big.NewRat(int64(s.Hi.Num), int64(s.Hi.Den))
			least, most := quantityAt(direction, x, 0, parts), quantityAt(direction, x, 0, parts)
			for part := range x.Ticks*parts + 1 {
				value := quantityAt(direction, x, part, parts)
				if value.Cmp(least) < 0 {
					least = value
				}
				if value.Cmp(most) > 0 {
					most = value
				}
			}
			// A turn is at most half a part away from a part, where the value differs by at most half / (4 parts parts).
			near := big.NewRat(max(product(direction, x.Half).Int64(), -product(direction, x.Half).Int64()), 4*parts*parts)
			below := new(big.Rat).Sub(new(big.Rat).SetFrac(least, big.NewInt(parts*parts)), lo)
			above := new(big.Rat).Sub(hi, new(big.Rat).SetFrac(most, big.NewInt(parts*parts)))
			if below.Sign() < 0 || above.Sign() < 0 || below.Cmp(near) > 0 || above.Cmp(near) > 0 {
				t.Fatal(r, x, i, s)
			}
			if lo.Num().Int64() != int64(s.Lo.Num) || hi.Num().Int64() != int64(s.Hi.Num) {
				t.Fatal("not in lowest terms", s)
			}
		}
	}
}

// P1.11: if no quantity is out the pose at each tick is permitted; otherwise it is out in this piece, and not before.
func TestPathsThatStayIn(t *testing.T) {
	random := fixedRandom()
	for range 300 {
		r, path := exampleRig(), []api.JackPiece{{Speed: someWay(random, 3), Half: someWay(random, 1), Ticks: 1 + random.IntN(4)}}
		end, _ := jack.PoseAt(path, path[0].Ticks)
		next := api.JackPiece{From: end, Half: someWay(random, 1), Ticks: 1 + random.IntN(4)}
		for i := range next.Speed {
			next.Speed[i] = path[0].Speed[i] + 2*path[0].Ticks*path[0].Half[i]
		}
		path = append(path, next)
		o, e := jack.FirstOut(r, path)
		if e != api.OK && e != api.ErrNone {
			t.Fatal(path, e)
		}
		inside := path[0].Ticks + path[1].Ticks // the last tick at which the pose must be permitted
		if e == api.OK {
			inside = []int{-1, path[0].Ticks}[o[0]]
			spans, _ := jack.SpansOf(r, path[o[0]])
			if s := spans[o[1]]; s.Hi.Num <= 15*s.Hi.Den && s.Lo.Num >= -15*s.Lo.Den {
				t.Fatal(path, o)
			}
		}
		for tick := range inside + 1 {
			pose, _ := jack.PoseAt(path, tick)
			if is, e := jack.IsPermitted(r, pose); !is || e != api.OK {
				t.Fatal(path, o, tick, pose, e)
			}
		}
	}
}

// P1.11
func TestPiecesThatGoBack(t *testing.T) {
	random := fixedRandom()
	compared := 0
	for range 300 {
		r, x := someRig(random, 1+random.IntN(8)), somePiece(random)
		end, e := jack.PoseAt([]api.JackPiece{x}, x.Ticks)
		if e != api.OK {
			t.Fatal(x, e)
		}
		back := api.JackPiece{From: end, Half: x.Half, Ticks: x.Ticks}
		for i := range back.Speed {
			back.Speed[i] = -x.Speed[i] - 2*x.Ticks*x.Half[i]
		}
		there, _ := jack.SpansOf(r, x)
		again, e := jack.SpansOf(r, back)
		if e != api.OK {
			continue // too far, or too fast
		}
		compared++
		if !slices.Equal(there, again) {
			t.Fatal(r, x, there, again)
		}
	}
	if compared < 100 {
		t.Error(compared)
	}
}
