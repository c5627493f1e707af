package wave

import (
	"strconv"
	"strings"

	"guidevane/api"
)

// maxNumber is the greatest number of 3 digits.
const maxNumber = 999

// FormatLine returns the string of a line.
func FormatLine(x api.WaveLine) string {
	var words []string
	for i, p := range x.Pipes {
		if i > 0 {
			words = append(words, strconv.Itoa(areaBefore(x, i)))
		}
		words = append(words, strconv.Itoa(p.Cells)+"x"+strconv.Itoa(p.Admittance))
	}
	return strings.Join(words, " ")
}

// ParseLine returns the line with a string.
func ParseLine(s string) (api.WaveLine, api.Errno) {
	x, ok := parseLine(s)
	if !ok {
		return api.WaveLine{}, api.ErrSyntax
	}
	if _, e := CheckLine(x); e != api.OK {
		return api.WaveLine{}, e
	}
	return x, api.OK
}

// areaBefore returns the area before a pipe that is not the first one, or 0 if it is missing.
func areaBefore(x api.WaveLine, pipe int) int {
	if pipe > len(x.Areas) {
		return 0
	}
	return x.Areas[pipe-1]
}

// parseLine returns the line with a string, which may have errors, and whether the string is of the form of one.
func parseLine(s string) (api.WaveLine, bool) {
	words := strings.Split(s, " ")
	wellFormed := len(words)%2 == 1
	var x api.WaveLine
	for i, word := range words {
		if i%2 == 0 {
			p, ok := parsePipe(word)
			x.Pipes, wellFormed = append(x.Pipes, p), wellFormed && ok
		} else {
			area, ok := parseNumber(word)
			x.Areas, wellFormed = append(x.Areas, area), wellFormed && ok
		}
	}
	return x, wellFormed
}

func parsePipe(word string) (api.WavePipe, bool) {
	before, after, _ := strings.Cut(word, "x")
	cells, cellsOK := parseNumber(before)
	admittance, admittanceOK := parseNumber(after)
	return api.WavePipe{Cells: cells, Admittance: admittance}, cellsOK && admittanceOK
}

// parseNumber returns the number that a word is, and whether it is one. A number is written in one way only, so that its word must come back from it.
func parseNumber(word string) (int, bool) {
	n, err := strconv.Atoi(word)
	return n, err == nil && n >= 0 && n <= maxNumber && strconv.Itoa(n) == word
}
