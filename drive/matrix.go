package drive

import (
	"math"

	"ductility/api"
)

// matrix is rows of the same length.
type matrix []row

// rowsOf returns the rows of lists.
func rowsOf(lists [][]api.Gauss) matrix {
	var m matrix
	for _, list := range lists {
		m = append(m, rowOf(list))
	}
	return m
}

// matrixOf returns a matrix, or the first error of it and of further arguments.
func matrixOf(m [][]api.Gauss, further ...api.Errno) (matrix, api.Errno) {
	_, e := CheckMatrix(m)
	if e = firstOf(e, firstOf(further...)); e != api.OK {
		return nil, e
	}
	return rowsOf(m), api.OK
}

// one returns the matrix 1 of so many rows.
func one(rows int) matrix {
	var m matrix
	for i := range rows {
		r := make(row, rows)
		r[i] = 1
		m = append(m, r)
	}
	return m
}

// lists returns the rows as lists.
func (m matrix) lists() [][]api.Gauss {
	var lists [][]api.Gauss
	for _, r := range m {
		lists = append(lists, r.list())
	}
	return lists
}

// each returns what all rows are changed to.
func (m matrix) each(change func(row) row) matrix {
	var changed matrix
	for _, r := range m {
		changed = append(changed, change(r))
	}
	return changed
}

// multiple returns the matrix multiplied by a number.
func (m matrix) multiple(n api.Gauss) matrix {
	return m.each(func(r row) row { return r.times(complexOf(n)) })
}

// conjugated returns the matrix of the conjugates.
func (m matrix) conjugated() matrix {
	return m.each(func(r row) row { return r.each(conjugate) })
}

// transposed returns the columns as rows; there is at least one row.
func (m matrix) transposed() matrix {
	var columns matrix
	for i := range m[0] {
		var column row
		for _, r := range m {
			column = append(column, r[i])
		}
		columns = append(columns, column)
	}
	return columns
}

// response returns the matrix times a drive.
func (m matrix) response(drive row) row {
	var response row
	for _, r := range m {
		response = append(response, r.along(drive))
	}
	return response
}

// times returns the product with another matrix.
func (m matrix) times(other matrix) matrix {
	return m.each(other.transposed().response)
}

// minus returns the difference, row by row.
func (m matrix) minus(other matrix) matrix {
	var difference matrix
	for i, r := range m {
		difference = append(difference, r.minus(other[i]))
	}
	return difference
}

// without returns the matrix without a row and a column.
func (m matrix) without(at, column int) matrix {
	var rest matrix
	for i, r := range m {
		if i != at {
			rest = append(rest, r.without(column))
		}
	}
	return rest
}

// cofactors returns by what the determinant multiplies the numbers of a row.
func (m matrix) cofactors(at int) row {
	var cofactors row
	for column := range m {
		x := m.without(at, column).determinant()
		if (at+column)%2 == 1 {
			x = -x
		}
		cofactors = append(cofactors, x)
	}
	return cofactors
}

// determinant returns the determinant, which is 1 without rows.
func (m matrix) determinant() complex128 {
	if len(m) == 0 {
		return 1
	}
	return m[0].along(m.cofactors(0))
}

// adjugate returns the inverse times the determinant.
func (m matrix) adjugate() matrix {
	var rows matrix
	for at := range m {
		rows = append(rows, m.cofactors(at))
	}
	return rows.transposed()
}

// rowSum returns the row sum.
func (m matrix) rowSum() int {
	most := 0.0
	for _, r := range m {
		sum := 0.0
		for _, x := range r {
			sum += math.Abs(real(x)) + math.Abs(imag(x))
		}
		most = max(most, sum)
	}
	return int(most)
}
