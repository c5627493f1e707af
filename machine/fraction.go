package machine

import (
	"cmp"

	"guidevane/api"
)

// lowest returns a fraction in lowest terms with Den above 0. Its parts may be too large for a result.
func lowest(num, den int) api.Frac {
	if den < 0 {
		num, den = -num, -den
	}
	common := divisorOf(num, den)
	return api.Frac{Num: num / common, Den: den / common}
}

// fraction returns a fraction in lowest terms, unless a part of it is too large.
func fraction(num, den int) (api.Frac, api.Errno) {
	f := lowest(num, den)
	if e := checkLarge(f); e != api.OK {
		return api.Frac{}, e
	}
	return f, api.OK
}

// divisorOf returns the greatest common divisor of a number and one above 0. The sign is turned only after the remainder was taken, since the least of all numbers has no opposite.
func divisorOf(n, positive int) int {
	rest := n % positive
	a, b := positive, max(rest, -rest)
	for b != 0 {
		a, b = b, a%b
	}
	return a
}

// checkForm returns the error of a fraction that is not in lowest terms with Den above 0.
func checkForm(f api.Frac) api.Errno {
	return unless(f.Den > 0 && divisorOf(f.Num, f.Den) == 1, api.ErrForm)
}

// checkLarge returns the error of a result in lowest terms.
func checkLarge(f api.Frac) api.Errno {
	return unless(within(f.Num, -api.MaxPart, api.MaxPart) && f.Den <= api.MaxPart, api.ErrLarge)
}

// compare compares fractions whose parts are not too large, so that no product overflows.
func compare(a, b api.Frac) int {
	return cmp.Compare(a.Num*b.Den, b.Num*a.Den)
}
