package surge

import (
	"strconv"
	"strings"

	"guidevane/api"
)

// maxNumber is the greatest number of 4 digits.
const maxNumber = 9999

// FormatRules returns the string of rules.
func FormatRules(r api.SurgeRules) string {
	numbers := [5]int{r.Inertia, r.Area, r.Friction.Lo, r.Friction.Hi, r.Throttle}
	var words []string
	for _, n := range numbers {
		words = append(words, strconv.Itoa(n))
	}
	return strings.Join(words, " ")
}

// ParseRules returns the rules with a string.
func ParseRules(s string) (api.SurgeRules, api.Errno) {
	r, ok := parseRules(s)
	if !ok {
		return api.SurgeRules{}, api.ErrSyntax
	}
	if e := CheckRules(r); e != api.OK {
		return api.SurgeRules{}, e
	}
	return r, api.OK
}

// parseRules returns the rules with a string, which may have errors, and whether the string is of the form of one.
func parseRules(s string) (api.SurgeRules, bool) {
	var numbers [5]int
	words := strings.Split(s, " ")
	if len(words) != len(numbers) {
		return api.SurgeRules{}, false
	}
	for i, word := range words {
		n, ok := parseNumber(word)
		if !ok {
			return api.SurgeRules{}, false
		}
		numbers[i] = n
	}
	friction := api.Range{Lo: numbers[2], Hi: numbers[3]}
	return api.SurgeRules{Inertia: numbers[0], Area: numbers[1], Friction: friction, Throttle: numbers[4]}, true
}

// parseNumber returns the number that a word is, and whether it is one. A number is written in one way only, so that its word must come back from it.
func parseNumber(word string) (int, bool) {
	n, err := strconv.Atoi(word)
	return n, err == nil && within(n, 0, maxNumber) && strconv.Itoa(n) == word
}
