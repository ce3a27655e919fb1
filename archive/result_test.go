package archive_test

import (
	"fmt"
	"math"
	"slices"
	"strings"
	"testing"

	"ductility/api"
	"ductility/archive"
)

// span returns a span.
func span(loNum, loDen, hiNum, hiDen int) api.Span {
	return api.Span{Lo: api.Frac{Num: loNum, Den: loDen}, Hi: api.Frac{Num: hiNum, Den: hiDen}}
}

// periodByHand returns the period of a decay of the tests.
func periodByHand(decay string) api.Span {
	return map[string]api.Span{early: span(1, 1, 3, 1), wide: span(2, 1, 4, 1), late: span(3, 1, 6, 1), slow: span(5, 1, 7, 1), half: span(3, 2, 5, 2)}[decay]
}

// peaksByHand returns the peaks of a motion of the tests.
func peaksByHand(motion string) string {
	return map[string]string{small: "2 1 1", great: "3 2 4", "3;0 0": "0 0 0"}[motion]
}

// P10.3, examples 4 and 9 (of the whole)
func TestExampleResults(t *testing.T) {
	n, l := exampleNet(), doneLog()
	values, e := archive.ValuesOf(n, l, "wall", 0)
	mustBe(t, "values", values, e, []api.SensorValues{{Den: 1, Parts: []int{6, -8}}}, api.OK)
	level, e := archive.LevelOf(n, l, "wall")
	mustBe(t, "level", level, e, 1, api.OK)
	results, e := archive.ResultsOf(n, l)
	mustBe(t, "results", results, e, []string{"0 1 2 1 1 0 8/1 1/1 3/1 sound"}, api.OK)
	motion, e := archive.MotionOf(n, l, "wall", 0)
	mustBe(t, "motion", motion, e, api.MotionRecord{Step: 10, Samples: []int{1, -2, 1}}, api.OK)
	periods, e := archive.PeriodsOf(n, l, "wall")
	mustBe(t, "periods", periods, e, []api.Span{span(1, 1, 3, 1)}, api.OK)
	damage, e := archive.DamageOf(n, l, "wall")
	mustBe(t, "damage", damage, e, []bool{false}, api.OK)
	for level, want := range []api.ArchiveCount{1: {Some: 0, All: 1}, 2: {}} {
		if level > 0 {
			count, e := archive.FragilityOf(n, l, level)
			mustBe(t, level, count, e, want, api.OK)
		}
	}
	for _, y := range []struct {
		l    []api.ArchiveEntry
		want api.ArchiveCount
	}{{l[:3], api.ArchiveCount{}}, {l, api.ArchiveCount{All: 1}}, {longer(l, "9 zoe open wall a"), api.ArchiveCount{Some: 1, All: 1}}} {
		count, e := archive.SealsOf(n, y.l, "wall")
		mustBe(t, len(y.l), count, e, y.want, api.OK)
	}
}

// P10.3: an open run, and a specimen without runs, have no results.
func TestNoResults(t *testing.T) {
	n := exampleNet()
	for _, l := range [][]api.ArchiveEntry{nil, exampleLog()[:1], exampleLog(), doneLog()[:6], doneLog()[:7], doneLog()[:8]} {
		results, e := archive.ResultsOf(n, l)
		mustBe(t, l, results, e, nil, api.OK)
		count, e := archive.FragilityOf(n, l, 1)
		mustBe(t, l, count, e, api.ArchiveCount{}, api.OK)
		want := api.OK
		if len(l) == 0 {
			want = api.ErrMissing
		}
		level, e := archive.LevelOf(n, l, "wall")
		mustBe(t, l, level, e, 0, want)
		periods, e := archive.PeriodsOf(n, l, "wall")
		mustBe(t, l, periods, e, nil, want)
		damage, e := archive.DamageOf(n, l, "wall")
		mustBe(t, l, damage, e, nil, want)
		motion, e := archive.MotionOf(n, l, "wall", 0)
		mustFail(t, l, motion, e, api.ErrMissing)
		values, e := archive.ValuesOf(n, l, "wall", 0)
		mustFail(t, l, values, e, api.ErrMissing)
	}
}

// P10.3: specimens and runs that there are not.
func TestMissing(t *testing.T) {
	n, l := exampleNet(), longer(doneLog(), "9 bob begin wall 1 "+small, "9 bob record acc 1", "9 bob decay "+early)
	for _, name := range append(badNames(), "Wall", "beam", "acc", "ann", "wal", "walls") {
		level, e := archive.LevelOf(n, l, name)
		mustFail(t, name, level, e, api.ErrMissing)
		motion, e := archive.MotionOf(n, l, name, 0)
		mustFail(t, name, motion, e, api.ErrMissing)
		values, e := archive.ValuesOf(n, l, name, 0)
		mustFail(t, name, values, e, api.ErrMissing)
		periods, e := archive.PeriodsOf(n, l, name)
		mustFail(t, name, periods, e, api.ErrMissing)
		damage, e := archive.DamageOf(n, l, name)
		mustFail(t, name, damage, e, api.ErrMissing)
		seals, e := archive.SealsOf(n, l, name)
		mustFail(t, name, seals, e, api.ErrMissing)
	}
	for _, run := range []int{-1, 1, 2, 6, math.MaxInt, math.MinInt} {
		motion, e := archive.MotionOf(n, l, "wall", run)
		mustFail(t, run, motion, e, api.ErrMissing)
		values, e := archive.ValuesOf(n, l, "wall", run)
		mustFail(t, run, values, e, api.ErrMissing)
	}
	values, e := archive.ValuesOf(n, longer(l, "9 bob end"), "wall", 1)
	mustBe(t, "done", values, e, []api.SensorValues{{Den: 1, Parts: []int{2}}}, api.OK)
	for _, level := range []int{0, -1, 3, math.MaxInt, math.MinInt} {
		count, e := archive.FragilityOf(n, l, level)
		mustFail(t, level, count, e, api.ErrRange)
	}
}

// P10.3: values of all channels in the order in which they were recorded.
func TestValues(t *testing.T) {
	l := longer(wideLog(), "9 ann begin wall 1 "+great, "9 ann record odd 1 -5 4", "9 ann record acc -3 2", "9 ann record flat 9 9 9", "9 ann record pos 1 3", "9 ann decay "+half, "9 ann end")
	values, e := archive.ValuesOf(wideNet(), l, "wall", 0)
	mustBe(t, "values", values, e, []api.SensorValues{
		{Den: 1, Parts: []int{2, -6, 6}}, {Den: 1, Parts: []int{-6, 4}}, {Den: 3, Parts: []int{7, 7, 7}}, {Den: 1, Parts: []int{-5, -30}},
	}, api.OK)
	results, e := archive.ResultsOf(wideNet(), l)
	mustBe(t, "results", results, e, []string{"0 1 3 2 4 3 6/1 0 6/1 2 7/3 1 30/1 3/2 5/2 sound"}, api.OK)
	// Values are as great as lines permit, and in lowest terms by all parts together.
	n := with(wideNet(), func(n *api.ArchiveNet) {
		n.Channels[0].Line = api.SensorLine{Gain: -300000000000, Offset: 299999999999, Den: 7}
	})
	l = longer(wideLog(), "9 ann begin wall 1 "+small, "9 ann record acc 100000 -100000 0", "9 ann record pos 1 2 3", "9 ann decay "+early, "9 ann end")
	results, e = archive.ResultsOf(n, l)
	mustBe(t, "great", results, e, []string{"0 1 2 1 1 0 30000299999999999/7 1 60/2 1/1 3/1 sound"}, api.OK)
}

// P10.3 and edge cases: a run is damage if its period is disjoint from that of any run before it.
func TestDamage(t *testing.T) {
	for _, y := range []struct {
		decays []string
		want   []bool
	}{
		{[]string{early}, []bool{false}},
		{[]string{early, early}, []bool{false, false}},
		{[]string{early, wide}, []bool{false, false}},
		{[]string{early, late}, []bool{false, false}}, // a common end
		{[]string{late, early}, []bool{false, false}},
		{[]string{half, late}, []bool{false, true}},
		{[]string{late, half}, []bool{false, true}},
		{[]string{early, slow}, []bool{false, true}},
		{[]string{slow, early}, []bool{false, true}},
		{[]string{wide, slow}, []bool{false, true}},
		{[]string{late, slow}, []bool{false, false}},
		{[]string{early, late, slow}, []bool{false, false, true}},
		{[]string{late, slow, early}, []bool{false, false, true}},
		{[]string{late, early, slow}, []bool{false, false, true}},
		// Sound again, compared with all before it.
		{[]string{early, slow, late}, []bool{false, true, false}},
		{[]string{early, slow, early}, []bool{false, true, true}},
		{[]string{late, half, late, late}, []bool{false, true, true, true}},
		{[]string{early, half, late}, []bool{false, false, true}},
	} {
		l := wideLog()
		var periods []api.Span
		var results []string
		want := api.ArchiveCount{All: len(y.decays)}
		for i, decay := range y.decays {
			l = longer(l, run("wall", 1, small, "acc 3 -4", decay)...)
			p := periodByHand(decay)
			periods = append(periods, p)
			word := "sound"
			if y.want[i] {
				word = "damage"
				want.Some++
			}
			results = append(results, fmt.Sprintf("0 1 2 1 1 0 8/1 %d/%d %d/%d %s", p.Lo.Num, p.Lo.Den, p.Hi.Num, p.Hi.Den, word))
		}
		mustHold(t, wideNet(), l)
		damage, e := archive.DamageOf(wideNet(), l, "wall")
		mustBe(t, y.decays, damage, e, y.want, api.OK)
		is, e := archive.PeriodsOf(wideNet(), l, "wall")
		mustBe(t, y.decays, is, e, periods, api.OK)
		texts, e := archive.ResultsOf(wideNet(), l)
		mustBe(t, y.decays, texts, e, results, api.OK)
		count, e := archive.FragilityOf(wideNet(), l, 1)
		mustBe(t, y.decays, count, e, want, api.OK)
	}
}

// twoLog returns a log in which runs of two specimens alternate.
func twoLog() []api.ArchiveEntry {
	l := longer(wideLog(), "1 ann specimen beam 0", "1 ann put beam 0", "1 ann sign beam low")
	l = longer(l, run("beam", 1, great, "odd 1 -5", slow)...)
	l = longer(l, run("wall", 1, small, "acc 3 -4", early)...)
	l = longer(l, run("wall", 2, great, "pos 1", slow)...)
	l = longer(l, run("beam", 1, small, "flat 1", early)...)
	return longer(l, run("wall", 1, "3;0 0", "acc 0", wide)...)
}

// P10.3: results are by specimens, then runs; a run is compared with those of its specimen alone.
func TestTwoSpecimens(t *testing.T) {
	l := twoLog()
	mustHold(t, wideNet(), l)
	results, e := archive.ResultsOf(wideNet(), l)
	mustBe(t, "results", results, e, []string{
		"0 1 2 1 1 0 8/1 1/1 3/1 sound", "0 2 3 2 4 1 5/1 5/1 7/1 damage", "0 1 0 0 0 0 0/1 2/1 4/1 damage",
		"1 1 3 2 4 3 6/1 5/1 7/1 sound", "1 1 2 1 1 2 7/3 1/1 3/1 damage",
	}, api.OK)
	for level, want := range map[int]api.ArchiveCount{1: {Some: 2, All: 4}, 2: {Some: 1, All: 1}, 3: {}} {
		count, e := archive.FragilityOf(wideNet(), l, level)
		mustBe(t, level, count, e, want, api.OK)
	}
	for name, want := range map[string]int{"wall": 2, "beam": 1} {
		level, e := archive.LevelOf(wideNet(), l, name)
		mustBe(t, name, level, e, want, api.OK)
	}
	motion, e := archive.MotionOf(wideNet(), l, "wall", 1)
	mustBe(t, "motion", motion, e, api.MotionRecord{Step: 5, Samples: []int{2, 0, -3, -1, 1, 1}}, api.OK)
	motion, e = archive.MotionOf(wideNet(), l, "beam", 1)
	mustBe(t, "motion", motion, e, api.MotionRecord{Step: 10, Samples: []int{1, -2, 1}}, api.OK)
}

// resultsByHand returns the results of a specimen of the wide net, from the texts of a log without an error.
func resultsByHand(l []api.ArchiveEntry, index int, specimen string) []string {
	var results []string
	var periods []api.Span
	at, channels := -1, 0
	var head, tail string
	for i, x := range l {
		words := strings.Split(x.Text, " ")
		switch {
		case words[0] == "begin":
			at, channels, tail = -1, 0, ""
			if words[1] == specimen {
				at = i
				head = fmt.Sprintf("%d %s %s", index, words[2], peaksByHand(strings.Join(words[3:], " ")))
			}
		case at < 0:
		case words[0] == "record":
			channels++
			head += " " + map[string]string{
				"acc 1 2 3": "0 6/1", "acc -4": "0 8/1", "acc 7 0 -9": "0 18/1", "pos 1 2 3": "1 60/2", "pos -4": "1 115/2", "pos 7 0 -9": "1 240/2",
				"odd 1 2 3": "3 14/3", "odd -4": "3 14/3", "odd 7 0 -9": "3 34/3",
			}[strings.Join(words[1:], " ")]
		case words[0] == "decay":
			p := periodByHand(strings.Join(words[1:], " "))
			isDamage := slices.ContainsFunc(periods, func(q api.Span) bool {
				return p.Lo.Num*q.Hi.Den > q.Hi.Num*p.Lo.Den || q.Lo.Num*p.Hi.Den > p.Hi.Num*q.Lo.Den
			})
			tail = fmt.Sprintf(" %d/%d %d/%d %s", p.Lo.Num, p.Lo.Den, p.Hi.Num, p.Hi.Den, map[bool]string{false: "sound", true: "damage"}[isDamage])
			periods = append(periods, p)
		case words[0] == "end":
			results = append(results, head+tail)
			at = -1
		}
	}
	return results
}

// P10.3: by hand
func TestResultsByHand(t *testing.T) {
	met := map[string]int{}
	for _, l := range someLogs(200) {
		s := stateAfter(t, wideNet(), l)
		var want []string
		for i, specimen := range s.Specimens {
			own := resultsByHand(l, i, specimen.Name)
			want = append(want, own...)
			level, damage := 0, []bool(nil)
			for _, text := range own {
				level = max(level, int(text[2]-'0'))
				damage = append(damage, strings.HasSuffix(text, "damage"))
			}
			isLevel, e := archive.LevelOf(wideNet(), l, specimen.Name)
			mustBe(t, l, isLevel, e, level, api.OK)
			isDamage, e := archive.DamageOf(wideNet(), l, specimen.Name)
			mustBe(t, l, isDamage, e, damage, api.OK)
		}
		results, e := archive.ResultsOf(wideNet(), l)
		mustBe(t, l, results, e, want, api.OK)
		for level := 1; level <= 3; level++ {
			var count api.ArchiveCount
			for _, text := range want {
				if int(text[2]-'0') == level {
					count.All++
					met[text[2:3]+text[strings.LastIndex(text, " "):]]++
					if strings.HasSuffix(text, "damage") {
						count.Some++
					}
				}
			}
			is, e := archive.FragilityOf(wideNet(), l, level)
			mustBe(t, l, is, e, count, api.OK)
		}
	}
	if min(met["1 sound"], met["1 damage"], met["2 sound"], met["2 damage"]) < 5 {
		t.Error(met)
	}
}
