package machine

import (
	"strconv"
	"strings"

	"guidevane/api"
)

// maxNumber is the greatest number of 5 digits.
const maxNumber = 99999

// FormatTable returns the string of a table.
func FormatTable(t api.MachineTable) string {
	var rows []string
	for _, row := range t.Rows {
		words := []string{strconv.Itoa(row.Opening)}
		for _, p := range row.Points {
			words = append(words, formatPoint(p))
		}
		rows = append(rows, strings.Join(words, " "))
	}
	return strings.Join(rows, ";")
}

// ParseTable returns the table with a string.
func ParseTable(s string) (api.MachineTable, api.Errno) {
	if len(s) > api.MaxString {
		return api.MachineTable{}, api.ErrLarge
	}
	t, ok := parseTable(s)
	if !ok {
		return api.MachineTable{}, api.ErrSyntax
	}
	if e := checkTable(t); e != api.OK {
		return api.MachineTable{}, e
	}
	return t, api.OK
}

func formatPoint(p api.MachinePoint) string {
	var numbers []string
	for _, n := range tripleOf(p) {
		numbers = append(numbers, strconv.Itoa(n))
	}
	return ":" + strings.Join(numbers, ",")
}

// parseTable returns the table with a string, which may have errors, and whether the string is of the form of one.
func parseTable(s string) (api.MachineTable, bool) {
	var t api.MachineTable
	for _, part := range strings.Split(s, ";") {
		row, ok := parseRow(part)
		if !ok {
			return api.MachineTable{}, false
		}
		t.Rows = append(t.Rows, row)
	}
	return t, true
}

func parseRow(part string) (api.MachineRow, bool) {
	words := strings.Split(part, " ")
	opening, ok := parseNumber(words[0], 0)
	row := api.MachineRow{Opening: opening}
	for _, word := range words[1:] {
		p, pointOK := parsePoint(word)
		row.Points, ok = append(row.Points, p), ok && pointOK
	}
	return row, ok
}

func parsePoint(word string) (api.MachinePoint, bool) {
	list, ok := strings.CutPrefix(word, ":")
	words := strings.Split(list, ",")
	if !ok || len(words) != places {
		return api.MachinePoint{}, false
	}
	var numbers triple
	for place, n := range words {
		number, numberOK := parseNumber(n, -maxNumber)
		numbers[place], ok = number, ok && numberOK
	}
	return api.MachinePoint{Head: numbers[atHead], Flow: numbers[atFlow], Power: numbers[atPower]}, ok
}

// parseNumber returns the number that a word is, and whether it is one and not below the least one. A number is written in one way only, so that its word must come back from it.
func parseNumber(word string, least int) (int, bool) {
	n, err := strconv.Atoi(word)
	return n, err == nil && within(n, least, maxNumber) && strconv.Itoa(n) == word
}
