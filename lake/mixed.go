package lake

import "guidevane/api"

// mixed is the number whole + part / den, with part from 0 to den - 1. Its parts stay small where those of one fraction would overflow.
type mixed struct{ whole, part, den int }

// straight returns the value at x, which lies from x0 to x1, of the straight line from x0, y0 to x1, y1.
func straight(x, x0, x1, y0, y1 int) mixed {
	num, den := (x-x0)*(y1-y0), x1-x0
	return mixed{whole: y0 + num/den, part: num % den, den: den}
}

// whole returns a whole number.
func whole(n int) mixed {
	return mixed{whole: n, den: 1}
}

// up returns the number rounded up.
func (m mixed) up() int {
	if m.part > 0 {
		return m.whole + 1
	}
	return m.whole
}

// enclosure returns the number rounded down and up.
func (m mixed) enclosure() api.Range {
	return api.Range{Lo: m.whole, Hi: m.up()}
}

// exceeds tells whether the number is greater than another one by more than a whole number. The parts decide only if the wholes are equal, since they differ by less than 1.
func (m mixed) exceeds(other mixed, by int) bool {
	excess := m.whole - other.whole - by
	if excess != 0 {
		return excess > 0
	}
	return m.part*other.den > other.part*m.den
}

// lowest returns a fraction of positive numbers in lowest terms.
func lowest(num, den int) api.Frac {
	a, b := num, den
	for b != 0 {
		a, b = b, a%b
	}
	return api.Frac{Num: num / a, Den: den / a}
}
