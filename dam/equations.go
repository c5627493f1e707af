package dam

import "guidevane/api"

// matrix has a row of numbers for each term.
type matrix [termCount]vector

// equations are the equations of a fit: each row's products with the coefficients add up to the number of its term in right.
type equations struct {
	rows  matrix
	right vector
}

// equationsOf returns the equations of the fits of a model to readings. A term that is not chosen has the equation that its coefficient is 0.
func equationsOf(l []api.DamReading, terms int) equations {
	var q equations
	for term := range chosen(allTerms &^ terms) {
		q.rows[term][term] = 1
	}
	for _, r := range l {
		x := termsOf(r)
		for term := range chosen(terms) {
			q.right[term] += x[term] * r.Movement
			for other := range chosen(terms) {
				q.rows[term][other] += x[term] * x[other]
			}
		}
	}
	return q
}

// solution returns the only solution of the equations as quotients of determinants, not reduced, with Den above 0; Den is 0 if there is not exactly one.
func (q equations) solution() fit {
	f := fit{api.DamFit{Den: q.rows.determinant()}}
	for term := range f.Parts {
		f.Parts[term] = q.rows.withColumn(term, q.right).determinant()
	}
	return f
}

// withColumn returns the matrix with another column in the place of one of its own.
func (m matrix) withColumn(at int, column vector) matrix {
	for row := range m {
		m[row][at] = column[row]
	}
	return m
}

// determinant returns the determinant. Readings are so few and their numbers so small that its 120 products are below 2 * 10^16, and no sum of them overflows.
func (m matrix) determinant() int {
	return m.minor(0, [termCount]bool{})
}

// minor returns the determinant of the rows from one on, in the columns that the rows above do not use.
func (m matrix) minor(row int, used [termCount]bool) int {
	if row == termCount {
		return 1
	}
	sum, sign := 0, 1
	for column, isUsed := range used {
		if isUsed {
			continue
		}
		below := used
		below[column] = true
		sum += sign * m[row][column] * m.minor(row+1, below)
		sign = -sign
	}
	return sum
}
