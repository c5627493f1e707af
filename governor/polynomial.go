package governor

import (
	"slices"

	"guidevane/api"
)

// CheckPolynomial returns the error of a polynomial.
func CheckPolynomial(p []int) api.Errno {
	if e := first(checkDegree(p), checkEach(p, checkCoef)); e != api.OK {
		return e
	}
	return unless(p[0] > 0, api.ErrForm)
}

// ValueAt returns the value of a polynomial at a frequency.
func ValueAt(p []int, w int) (api.Gauss, api.Errno) {
	if e := first(CheckPolynomial(p), checkFrequency(w)); e != api.OK {
		return api.Gauss{}, e
	}
	return valueAt(p, w), api.OK
}

// QuadrantsOf returns the quadrants of the values of a polynomial at all frequencies of a grid.
func QuadrantsOf(p []int, grid []int) ([]int, api.Errno) {
	if e := first(CheckPolynomial(p), checkMost(grid, api.MaxGovernorGrid), checkAscending(grid, checkFrequency)); e != api.OK {
		return nil, e
	}
	var quadrants []int
	for _, w := range grid {
		v := valueAt(p, w)
		if v == (api.Gauss{}) {
			return nil, api.ErrZero
		}
		quadrants = append(quadrants, quadrantOf(v))
	}
	return quadrants, api.OK
}

// Shifted returns the polynomial whose value for an argument is that of the given one for the argument plus a number.
func Shifted(p []int, by int) ([]int, api.Errno) {
	if e := first(CheckPolynomial(p), checkUpTo(by, api.MaxGovernorMargin)); e != api.OK {
		return nil, e
	}
	q := shifted(p, by)
	if CheckPolynomial(q) != api.OK {
		return nil, api.ErrLarge
	}
	return q, api.OK
}

// MarginOf returns the margin of a stable polynomial.
func MarginOf(p []int) (int, api.Errno) {
	if e := CheckPolynomial(p); e != api.OK {
		return 0, e
	}
	for margin := api.MaxGovernorMargin; margin >= 0; margin-- {
		if q := shifted(p, -margin); CheckPolynomial(q) == api.OK && isStable(q) {
			return margin, api.OK
		}
	}
	return 0, api.ErrNone
}

// checkDegree returns the error of the number of coefficients.
func checkDegree[T any](coefs []T) api.Errno {
	return first(unless(len(coefs) >= 2, api.ErrShape), checkMost(coefs, api.MaxGovernorDegree+1))
}

func checkCoef(coef int) api.Errno {
	return checkUpTo(coef, api.MaxGovernorCoef)
}

func checkFrequency(w int) api.Errno {
	return checkWithin(w, 0, api.MaxGovernorGain)
}

// valueAt multiplies complex numbers with whole parts. No part becomes greater in size than 10^15 + 10^9 + 10^3, which is below 2^53, so that all of them are exact.
func valueAt(p []int, w int) api.Gauss {
	argument := complex(0, float64(w))
	value := complex(0, 0)
	for _, coef := range p {
		value = value*argument + complex(float64(coef), 0)
	}
	return api.Gauss{Re: int(real(value)), Im: int(imag(value))}
}

// quadrantOf returns the quadrant of a number that is not 0.
func quadrantOf(v api.Gauss) int {
	switch {
	case v.Re > 0 && v.Im >= 0:
		return 0
	case v.Re <= 0 && v.Im > 0:
		return 1
	case v.Re < 0 && v.Im <= 0:
		return 2
	}
	return 3
}

// shifted divides by the argument minus the number again and again: each remainder is a coefficient, the lowest one first.
func shifted(p []int, by int) []int {
	q := slices.Clone(p)
	for end := len(q); end > 1; end-- {
		for i := 1; i < end; i++ {
			q[i] += by * q[i-1]
		}
	}
	return q
}
