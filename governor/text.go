package governor

import (
	"strconv"
	"strings"

	"guidevane/api"
)

// maxNumber is the greatest number of 7 digits.
const maxNumber = 9999999

// FormatPolynomial returns the string of a polynomial.
func FormatPolynomial(p []int) string {
	var words []string
	for _, coef := range p {
		words = append(words, strconv.Itoa(coef))
	}
	return strings.Join(words, " ")
}

// ParsePolynomial returns the polynomial with a string.
func ParsePolynomial(s string) ([]int, api.Errno) {
	p, ok := parseNumbers(s)
	if !ok {
		return nil, api.ErrSyntax
	}
	if e := CheckPolynomial(p); e != api.OK {
		return nil, e
	}
	return p, api.OK
}

// parseNumbers returns the numbers that a string consists of, and whether it does.
func parseNumbers(s string) ([]int, bool) {
	var numbers []int
	for _, word := range strings.Split(s, " ") {
		n, ok := parseNumber(word)
		if !ok {
			return nil, false
		}
		numbers = append(numbers, n)
	}
	return numbers, true
}

// parseNumber returns the number that a word is, and whether it is one. A number is written in one way only, so that its word must come back from it.
func parseNumber(word string) (int, bool) {
	n, err := strconv.Atoi(word)
	return n, err == nil && within(n, -maxNumber, maxNumber) && strconv.Itoa(n) == word
}
