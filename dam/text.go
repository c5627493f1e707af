package dam

import (
	"strconv"
	"strings"

	"guidevane/api"
)

// The greatest numbers of 5 and of 7 digits.
const (
	maxReadingNumber = 99999
	maxRulesNumber   = 9999999
)

// FormatReading returns the string of a reading.
func FormatReading(r api.DamReading) string {
	return formatNumbers(r.Day, r.Level, r.Movement)
}

// ParseReading returns the reading with a string.
func ParseReading(s string) (api.DamReading, api.Errno) {
	r, ok := parseReading(s)
	if !ok {
		return api.DamReading{}, api.ErrSyntax
	}
	if e := CheckReading(r); e != api.OK {
		return api.DamReading{}, e
	}
	return r, api.OK
}

// FormatRules returns the string of rules.
func FormatRules(r api.DamRules) string {
	parts := []string{strconv.Itoa(r.Hold)}
	for i := range max(len(r.Up), len(r.Down)) {
		parts = append(parts, formatNumbers(numberAt(r.Up, i), numberAt(r.Down, i)))
	}
	for _, p := range r.Persons {
		parts = append(parts, p.Name+" "+strconv.Itoa(p.Rank))
	}
	return strings.Join(parts, ";")
}

// ParseRules returns the rules with a string.
func ParseRules(s string) (api.DamRules, api.Errno) {
	if len(s) > api.MaxString {
		return api.DamRules{}, api.ErrLarge
	}
	r, ok := parseRules(s)
	if !ok {
		return api.DamRules{}, api.ErrSyntax
	}
	if _, e := CheckRules(r); e != api.OK {
		return api.DamRules{}, e
	}
	return r, api.OK
}

func formatNumbers(numbers ...int) string {
	var words []string
	for _, n := range numbers {
		words = append(words, strconv.Itoa(n))
	}
	return strings.Join(words, " ")
}

// numberAt returns the number with an index, and 0 behind the last one.
func numberAt(numbers []int, i int) int {
	if i < len(numbers) {
		return numbers[i]
	}
	return 0
}

// parseReading returns the reading with a string, which may have errors, and whether the string is of the form of one.
func parseReading(s string) (api.DamReading, bool) {
	words := strings.Split(s, " ")
	if len(words) != 3 {
		return api.DamReading{}, false
	}
	day, dayOK := parseNumber(words[0], 0, maxReadingNumber)
	level, levelOK := parseNumber(words[1], -maxReadingNumber, maxReadingNumber)
	movement, movementOK := parseNumber(words[2], -maxReadingNumber, maxReadingNumber)
	r := api.DamReading{Day: day, Level: level, Movement: movement}
	return r, dayOK && levelOK && movementOK
}

// parseRules returns the rules with a string, which may have errors, and whether the string is of the form of some.
func parseRules(s string) (api.DamRules, bool) {
	parts := strings.Split(s, ";")
	hold, ok := parseNumber(parts[0], 0, maxRulesNumber)
	r := api.DamRules{Hold: hold}
	for _, part := range parts[1:] {
		word, rest, _ := strings.Cut(part, " ")
		last, lastOK := parseNumber(rest, 0, maxRulesNumber)
		ok = ok && lastOK
		if word != "" && isLetter(word[0]) {
			r.Persons = append(r.Persons, api.DamPerson{Name: word, Rank: last})
			continue
		}
		up, upOK := parseNumber(word, 0, maxRulesNumber)
		r.Up, r.Down = append(r.Up, up), append(r.Down, last)
		ok = ok && upOK && len(r.Persons) == 0
	}
	return r, ok && len(parts) > 1
}

// parseNumber returns the number that a word is, and whether it is one, from lo to hi. A number is written in one way only, so that its word must come back from it.
func parseNumber(word string, lo, hi int) (int, bool) {
	n, err := strconv.Atoi(word)
	return n, err == nil && lo <= n && n <= hi && strconv.Itoa(n) == word
}
