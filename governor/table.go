package governor

import (
	"slices"

	"guidevane/api"
)

// TableOf returns the table of a polynomial.
func TableOf(p []int) ([][]int, api.Errno) {
	if e := CheckPolynomial(p); e != api.OK {
		return nil, e
	}
	return tableOf(p), api.OK
}

// IsStable returns whether a polynomial is stable.
func IsStable(p []int) (bool, api.Errno) {
	if e := CheckPolynomial(p); e != api.OK {
		return false, e
	}
	return isStable(p), api.OK
}

// CheckTable returns the error of a table that shall prove that a polynomial is stable, with the index of the row.
func CheckTable(p []int, rows [][]int) (int, api.Errno) {
	if e := first(CheckPolynomial(p), unless(len(rows) == len(p), api.ErrShape)); e != api.OK {
		return 0, e
	}
	// A table that ends too early ends with a row that is not accepted.
	for i, row := range tableOf(p) {
		if !slices.Equal(rows[i], row) || row[0] <= 0 {
			return i, api.ErrProof
		}
	}
	return 0, api.OK
}

// isStable looks at the last row alone, since the table would end with an earlier one whose entry 0 is not above 0.
func isStable(p []int) bool {
	rows := tableOf(p)
	last := rows[len(rows)-1]
	return len(rows) == len(p) && last[0] > 0
}

func tableOf(p []int) [][]int {
	upper, row := divided(everySecond(p)), divided(everySecond(p[1:]))
	rows := [][]int{upper, row}
	for row[0] > 0 && len(rows) < len(p) {
		upper, row = row, divided(rowAfter(upper, row))
		rows = append(rows, row)
	}
	return rows
}

func everySecond(p []int) []int {
	var row []int
	for i := 0; i < len(p); i += 2 {
		row = append(row, p[i])
	}
	return row
}

// rowAfter returns the row after two others, before it is divided: it has one entry less than the upper one of them.
func rowAfter(upper, lower []int) []int {
	row := make([]int, len(upper)-1)
	for j := range row {
		row[j] = lower[0] * upper[j+1]
		if j+1 < len(lower) {
			row[j] -= upper[0] * lower[j+1]
		}
	}
	return row
}

// divided returns a row that is divided by the greatest common divisor of its entries.
func divided(row []int) []int {
	common := 0
	for _, entry := range row {
		common = divisorOf(common, entry)
	}
	if common == 0 {
		return row
	}
	for j := range row {
		row[j] /= common
	}
	return row
}
