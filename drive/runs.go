package drive

import "ductility/api"

// runs is what the equations of an estimate are made from: the estimate times the sums of the inputs is those of the outputs.
type runs struct {
	outputs               matrix // for each output its numbers, run by run
	inputSums, outputSums matrix
}

// runsOf returns runs, or the error of them.
func runsOf(r api.DriveRuns) (runs, api.Errno) {
	if e := runsError(r); e != api.OK {
		return runs{}, e
	}
	inputs, outputs := rowsOf(r.Inputs), rowsOf(r.Outputs).transposed()
	conjugates := inputs.conjugated()
	checked := runs{outputs, inputs.transposed().times(conjugates), outputs.times(conjugates)}
	if checked.inputSums.determinant() == 0 {
		return runs{}, api.ErrZero
	}
	return checked, api.OK
}

// estimate returns the estimate of runs.
func (r runs) estimate() quotient {
	// Runs without an inverse of these sums have an error.
	inverse, _ := r.inputSums.inverse()
	return quotient{r.outputSums.times(inverse.matrix), inverse.den}
}

// Estimated returns the estimate of runs in lowest terms.
func Estimated(r api.DriveRuns) (api.DriveQuotient, api.Errno) {
	checked, e := runsOf(r)
	if e != api.OK {
		return api.DriveQuotient{}, e
	}
	return checked.estimate().lowest(), api.OK
}

// CheckEstimate accepts the estimate of runs, otherwise it returns the index of the first row whose equations do not hold.
func CheckEstimate(r api.DriveRuns, x api.DriveQuotient) (int, api.Errno) {
	checked, e := runsOf(r)
	if e = firstOf(e, quotientError(x, len(checked.outputs))); e != api.OK {
		return 0, e
	}
	return firstOther(rowsOf(x.Rows).times(checked.inputSums), checked.outputSums.multiple(api.Gauss{Re: x.Den}))
}

// CoherenceOf returns the coherence of an output.
func CoherenceOf(r api.DriveRuns, output int) (api.Frac, api.Errno) {
	checked, e := runsOf(r)
	if e = firstOf(e, when(!areWithin(0, len(checked.outputs)-1, output), api.ErrMissing)); e != api.OK {
		return api.Frac{}, e
	}
	all := squares(checked.outputs[output], checked.outputs[output])
	if all == 0 {
		return api.Frac{}, api.ErrNone
	}
	estimate := checked.estimate()
	explained := squares(estimate.matrix[output], checked.outputSums[output])
	return fraction(explained, estimate.den*all)
}

// squares returns the sum of all products of a row with the conjugates of another one, where this sum is real.
func squares(r, other row) int {
	return int(real(r.along(other.each(conjugate))))
}
