package archive

import (
	"iter"
	"slices"
	"strconv"
	"strings"

	"ductility/api"
	"ductility/modal"
	"ductility/motion"
	"ductility/sensor"
)

// result is a run that is done, the index of its specimen, its period, and whether it is damage.
type result struct {
	api.ArchiveRun
	specimen int
	period   api.Span
	isDamage bool
}

// isLess tells whether a fraction is less than another one.
func isLess(a, b api.Frac) bool { return a.Num*b.Den < b.Num*a.Den }

// areDisjoint tells whether two spans have no number in common.
func areDisjoint(a, b api.Span) bool { return isLess(a.Hi, b.Lo) || isLess(b.Hi, a.Lo) }

// resultsOf yields the results of a specimen, by runs.
func (d *desk) resultsOf(specimen int) iter.Seq[result] {
	return func(yield func(r result) bool) {
		var before []api.Span
		for _, run := range d.done(specimen) {
			// A decay without a period is not recorded.
			period, _ := modal.PeriodIn(run.Decay)
			isDamage := slices.ContainsFunc(before, func(other api.Span) bool { return areDisjoint(period, other) })
			if !yield(result{run, specimen, period, isDamage}) {
				return
			}
			before = append(before, period)
		}
	}
}

// results yields all results, by specimens, then runs.
func (d *desk) results() iter.Seq[result] {
	return func(yield func(r result) bool) {
		for specimen := range d.Specimens {
			for r := range d.resultsOf(specimen) {
				if !yield(r) {
					return
				}
			}
		}
	}
}

// values returns the corrected values of the channels of a run.
func (d *desk) values(run api.ArchiveRun) []api.SensorValues {
	var l []api.SensorValues
	for i, channel := range run.Channels {
		// Neither the line of a net without errors nor samples that were parsed have an error.
		values, _ := sensor.CorrectedOf(d.Channels[channel].Line, run.Raws[i])
		l = append(l, values)
	}
	return l
}

// greatestOf returns the greatest size of numbers.
func greatestOf(numbers []int) int {
	greatest := 0
	for _, n := range numbers {
		greatest = max(greatest, n, -n)
	}
	return greatest
}

// quotient returns the word of a number and what it is divided by.
func quotient(num, den int) string { return strconv.Itoa(num) + "/" + strconv.Itoa(den) }

// format returns the string of a result.
func (d *desk) format(r result) string {
	var parts []string
	add := func(numbers ...int) {
		for _, n := range numbers {
			parts = append(parts, strconv.Itoa(n))
		}
	}
	// A record that was parsed has no error.
	peaks, _ := motion.PeaksOf(r.Motion)
	add(r.specimen, r.Level, peaks.Acceleration, peaks.Velocity, peaks.Displacement)
	for i, values := range d.values(r.ArchiveRun) {
		add(r.Channels[i])
		parts = append(parts, quotient(greatestOf(values.Parts), values.Den))
	}
	parts = append(parts, quotient(r.period.Lo.Num, r.period.Lo.Den), quotient(r.period.Hi.Num, r.period.Hi.Den))
	if r.isDamage {
		return strings.Join(append(parts, "damage"), " ")
	}
	return strings.Join(append(parts, "sound"), " ")
}

// specimenOf returns the desk of a net and a log, and the index of a specimen, or the first error of them.
func specimenOf(n api.ArchiveNet, l []api.ArchiveEntry, specimen string) (*desk, int, api.Errno) {
	d, e := deskOf(n, l)
	if e != api.OK {
		return nil, 0, e
	}
	index := slices.Index(stringsOf(d.Specimens, specimenName), specimen)
	return d, index, when(index < 0, api.ErrMissing)
}

// runOf returns the desk of a net and a log, and a run of a specimen that is done, or the first error of them.
func runOf(n api.ArchiveNet, l []api.ArchiveEntry, specimen string, run int) (*desk, api.ArchiveRun, api.Errno) {
	d, index, e := specimenOf(n, l, specimen)
	if e != api.OK {
		return nil, api.ArchiveRun{}, e
	}
	done := d.done(index)
	if !isWithin(0, len(done)-1, run) {
		return nil, api.ArchiveRun{}, api.ErrMissing
	}
	return d, done[run], api.OK
}

// LevelOf returns the level of a specimen.
func LevelOf(n api.ArchiveNet, l []api.ArchiveEntry, specimen string) (int, api.Errno) {
	d, index, e := specimenOf(n, l, specimen)
	if e != api.OK {
		return 0, e
	}
	return d.level(index), api.OK
}

// MotionOf returns the motion of a run.
func MotionOf(n api.ArchiveNet, l []api.ArchiveEntry, specimen string, run int) (api.MotionRecord, api.Errno) {
	_, found, e := runOf(n, l, specimen, run)
	return found.Motion, e
}

// ValuesOf returns the corrected values of the channels of a run.
func ValuesOf(n api.ArchiveNet, l []api.ArchiveEntry, specimen string, run int) ([]api.SensorValues, api.Errno) {
	d, found, e := runOf(n, l, specimen, run)
	if e != api.OK {
		return nil, e
	}
	return d.values(found), api.OK
}

// PeriodsOf returns the periods of a specimen.
func PeriodsOf(n api.ArchiveNet, l []api.ArchiveEntry, specimen string) ([]api.Span, api.Errno) {
	d, index, e := specimenOf(n, l, specimen)
	if e != api.OK {
		return nil, e
	}
	var periods []api.Span
	for r := range d.resultsOf(index) {
		periods = append(periods, r.period)
	}
	return periods, api.OK
}

// DamageOf returns for each run of a specimen that is done whether it is damage.
func DamageOf(n api.ArchiveNet, l []api.ArchiveEntry, specimen string) ([]bool, api.Errno) {
	d, index, e := specimenOf(n, l, specimen)
	if e != api.OK {
		return nil, e
	}
	var damage []bool
	for r := range d.resultsOf(index) {
		damage = append(damage, r.isDamage)
	}
	return damage, api.OK
}

// FragilityOf returns how many runs of a level that are done are damage, of how many.
func FragilityOf(n api.ArchiveNet, l []api.ArchiveEntry, level int) (api.ArchiveCount, api.Errno) {
	d, e := deskOf(n, l)
	if e = firstOf(e, when(!isWithin(1, len(n.Gates), level), api.ErrRange)); e != api.OK {
		return api.ArchiveCount{}, e
	}
	var count api.ArchiveCount
	for r := range d.results() {
		if r.Level != level {
			continue
		}
		count.All++
		if r.isDamage {
			count.Some++
		}
	}
	return count, api.OK
}

// ResultsOf returns the results of a log.
func ResultsOf(n api.ArchiveNet, l []api.ArchiveEntry) ([]string, api.Errno) {
	d, e := deskOf(n, l)
	if e != api.OK {
		return nil, e
	}
	var results []string
	for r := range d.results() {
		results = append(results, d.format(r))
	}
	return results, api.OK
}

// sealsOf returns how many of the seals of a specimen are opened, of how many.
func (d *desk) sealsOf(specimen int) api.ArchiveCount {
	var count api.ArchiveCount
	for _, seal := range d.Specimens[specimen].Seals {
		count.All++
		if seal.Opened {
			count.Some++
		}
	}
	return count
}

// SealsOf returns how many of the seals of a specimen are opened, of how many.
func SealsOf(n api.ArchiveNet, l []api.ArchiveEntry, specimen string) (api.ArchiveCount, api.Errno) {
	d, index, e := specimenOf(n, l, specimen)
	if e != api.OK {
		return api.ArchiveCount{}, e
	}
	return d.sealsOf(index), api.OK
}
