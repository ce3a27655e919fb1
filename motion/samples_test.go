package motion_test

import (
	"math"
	"math/rand/v2"
	"slices"
	"testing"

	"ductility/api"
	"ductility/motion"
)

// exampleRecord returns the record of the examples.
func exampleRecord() api.MotionRecord {
	return api.MotionRecord{Step: 10, Samples: []int{1, 0, -1, 2}}
}

// zeros returns a record of so many zeros.
func zeros(count int) api.MotionRecord {
	return api.MotionRecord{Step: 1, Samples: make([]int, count)}
}

// same returns a record of so many equal samples.
func same(count, sample int) api.MotionRecord {
	return api.MotionRecord{Step: 1, Samples: slices.Repeat([]int{sample}, count)}
}

// isNothing tells whether a record is the zero value.
func isNothing(r api.MotionRecord) bool { return r.Step == 0 && len(r.Samples) == 0 }

// areSame tells whether records are the same.
func areSame(a, b api.MotionRecord) bool {
	return a.Step == b.Step && slices.Equal(a.Samples, b.Samples)
}

// fixedRandom returns the same numbers in each run.
func fixedRandom() *rand.Rand { return rand.New(rand.NewPCG(2, 2)) }

// within returns a number of at most so great a size.
func within(random *rand.Rand, size int) int { return random.IntN(2*size+1) - size }

// someRecord returns a record of 2 to 24 samples of at most so great a size; some of them are 0.
func someRecord(random *rand.Rand, size int) api.MotionRecord {
	r := api.MotionRecord{Step: 1 + random.IntN(api.MaxMotionStep)}
	for range 2 + random.IntN(api.MaxMotionSamples-1) {
		r.Samples = append(r.Samples, within(random, size)*min(1, random.IntN(4)))
	}
	return r
}

// stopped changes the last two samples so that the record ends at rest.
func stopped(samples []int) []int {
	l := slices.Clone(samples)
	n := len(l)
	l[n-2], l[n-1] = 0, 0
	end := endByHand(l)
	l[n-2] = end.Velocity - end.Displacement
	l[n-1] = end.Displacement - 2*end.Velocity
	return l
}

// endByHand weighs each sample by how many follow from it on.
func endByHand(samples []int) api.MotionEnd {
	var end api.MotionEnd
	for t, a := range samples {
		end.Velocity += a
		end.Displacement += (len(samples) - t) * a
	}
	return end
}

// someWaves returns waves for a record, whose samples are small ones.
func someWaves(random *rand.Rand, r api.MotionRecord, count int) [][]int {
	var waves [][]int
	for len(waves) < count {
		wave := make([]int, len(r.Samples))
		for range 3 {
			if at := random.IntN(max(1, len(wave)-2)); at+2 < len(wave) {
				n := within(random, 30)
				wave[at] += n
				wave[at+1] -= 2 * n
				wave[at+2] += n
			}
		}
		waves = append(waves, wave)
	}
	return waves
}

// badRecord is a record with an error, and what CheckRecord says of it.
type badRecord struct {
	name  string
	r     api.MotionRecord
	index int
	want  api.Errno
}

// badRecords lists all errors of records; each has errors that are listed later, or stand in later samples, too.
func badRecords() []badRecord {
	return []badRecord{
		{"nothing", api.MotionRecord{}, 0, api.ErrRange},
		{"step 0", api.MotionRecord{Step: 0, Samples: []int{1001}}, 0, api.ErrRange},
		{"step below 0", api.MotionRecord{Step: math.MinInt, Samples: []int{1, 2}}, 0, api.ErrRange},
		{"step above", api.MotionRecord{Step: api.MaxMotionStep + 1, Samples: make([]int, 25)}, 0, api.ErrRange},
		{"no samples", api.MotionRecord{Step: 1}, 0, api.ErrShape},
		{"empty samples", api.MotionRecord{Step: 1, Samples: []int{}}, 0, api.ErrShape},
		{"one sample", api.MotionRecord{Step: 1, Samples: []int{1001}}, 0, api.ErrShape},
		{"25 samples", same(25, 1001), 0, api.ErrLarge},
		{"first sample above", api.MotionRecord{Step: 1, Samples: []int{1001, 0}}, 0, api.ErrRange},
		{"last sample below", api.MotionRecord{Step: 1, Samples: []int{0, 1000, -1001}}, 2, api.ErrRange},
		{"two samples", api.MotionRecord{Step: 1, Samples: []int{0, math.MinInt, math.MaxInt}}, 1, api.ErrRange},
	}
}

// bad returns a record with an error.
func bad() api.MotionRecord { return api.MotionRecord{Step: 1, Samples: []int{1}} }

// checkRecordErrors checks that a function returns the errors of records.
func checkRecordErrors(t *testing.T, name string, errorOf func(r api.MotionRecord) api.Errno) {
	t.Helper()
	for _, x := range badRecords() {
		if e := errorOf(x.r); e != x.want {
			t.Error(name, x.name, e)
		}
	}
}

// mustEnd returns the end of a record.
func mustEnd(t *testing.T, r api.MotionRecord) api.MotionEnd {
	t.Helper()
	end, e := motion.EndOf(r)
	if e != api.OK {
		t.Fatal(r, e)
	}
	return end
}
