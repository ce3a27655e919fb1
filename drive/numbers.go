package drive

import (
	"iter"

	"ductility/api"
)

// row is whole complex numbers: those of a row, of a column, of a drive or of a target. complex128 has them exactly, as
// no part of a sum or of a product of this package reaches 2^53.
type row []complex128

// rowOf returns the numbers of a list.
func rowOf(list []api.Gauss) row {
	var r row
	for _, x := range list {
		r = append(r, complexOf(x))
	}
	return r
}

// complexOf returns a whole complex number as complex128.
func complexOf(x api.Gauss) complex128 {
	return complex(float64(x.Re), float64(x.Im))
}

// gaussOf returns a complex128 whose parts are whole as a whole complex number.
func gaussOf(x complex128) api.Gauss {
	return api.Gauss{Re: int(real(x)), Im: int(imag(x))}
}

// list returns the numbers as a list.
func (r row) list() []api.Gauss {
	var list []api.Gauss
	for _, x := range r {
		list = append(list, gaussOf(x))
	}
	return list
}

// conjugate returns the number whose imaginary part has the other sign.
func conjugate(x complex128) complex128 {
	return complex(real(x), -imag(x))
}

// pairs yields the numbers of two lists two by two, as long as both of them have one.
func pairs[T any](a, b []T) iter.Seq2[T, T] {
	return func(yield func(T, T) bool) {
		for i := range min(len(a), len(b)) {
			if !yield(a[i], b[i]) {
				return
			}
		}
	}
}

// along returns the sum of all products with the numbers of another row.
func (r row) along(other row) complex128 {
	var sum complex128
	for x, y := range pairs(r, other) {
		sum += x * y
	}
	return sum
}

// plus returns the sum, number by number.
func (r row) plus(other row) row {
	var sum row
	for x, y := range pairs(r, other) {
		sum = append(sum, x+y)
	}
	return sum
}

// minus returns the difference, number by number.
func (r row) minus(other row) row {
	var difference row
	for x, y := range pairs(r, other) {
		difference = append(difference, x-y)
	}
	return difference
}

// each returns what all numbers are changed to.
func (r row) each(change func(complex128) complex128) row {
	var changed row
	for _, x := range r {
		changed = append(changed, change(x))
	}
	return changed
}

// times returns the numbers multiplied by one.
func (r row) times(n complex128) row {
	return r.each(func(x complex128) complex128 { return x * n })
}

// isWithin tells whether no part of the numbers is greater in size than a limit.
func (r row) isWithin(limit int) bool {
	return partsError(limit, r.list()) == api.OK
}

// without returns the numbers without that of a column.
func (r row) without(column int) row {
	// The full slice lets append make a new row: the given one stays as it is.
	return append(r[:column:column], r[column+1:]...)
}
