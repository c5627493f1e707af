package lake

import (
	"strconv"
	"strings"

	"guidevane/api"
)

// The maximum digits of the numbers of a table, and of flows. Numbers with so few digits do not overflow.
const (
	tableDigits = 10
	flowDigits  = 8
)

// FormatTable returns the string of a table.
func FormatTable(t api.LakeTable) string {
	return joined(len(t.Knots), ";", func(i int) string {
		k := t.Knots[i]
		return formatNumbers(k.Level, k.Volume)
	})
}

// ParseTable returns the table with a string.
func ParseTable(s string) (api.LakeTable, api.Errno) {
	if len(s) > api.MaxString {
		return api.LakeTable{}, api.ErrLarge
	}
	var t api.LakeTable
	for _, item := range strings.Split(s, ";") {
		n, ok := parseNumbers(item, unsigned(tableDigits), unsigned(tableDigits))
		if !ok {
			return api.LakeTable{}, api.ErrSyntax
		}
		t.Knots = append(t.Knots, api.LakeKnot{Level: n[0], Volume: n[1]})
	}
	if _, e := CheckTable(t); e != api.OK {
		return api.LakeTable{}, e
	}
	return t, api.OK
}

// FormatFlows returns the string of flows.
func FormatFlows(l []api.LakeFlows) string {
	return joined(len(l), ";", func(i int) string {
		x := l[i]
		return formatNumbers(x.InUpper, x.InLower, x.Exchange)
	})
}

// ParseFlows returns the flows with a string.
func ParseFlows(s string) ([]api.LakeFlows, api.Errno) {
	if len(s) > api.MaxString {
		return nil, api.ErrLarge
	}
	if s == "" {
		return nil, api.OK
	}
	var l []api.LakeFlows
	for _, item := range strings.Split(s, ";") {
		n, ok := parseNumbers(item, unsigned(flowDigits), unsigned(flowDigits), signed(flowDigits))
		if !ok {
			return nil, api.ErrSyntax
		}
		l = append(l, api.LakeFlows{InUpper: n[0], InLower: n[1], Exchange: n[2]})
	}
	if e := checkRun(l); e != api.OK {
		return nil, e
	}
	return l, api.OK
}

// joined returns n items with a separator between each two.
func joined(n int, separator string, format func(i int) string) string {
	items := make([]string, n)
	for i := range items {
		items[i] = format(i)
	}
	return strings.Join(items, separator)
}

func formatNumbers(l ...int) string {
	return joined(len(l), " ", func(i int) string { return strconv.Itoa(l[i]) })
}

// parser returns the number that a word is, and whether it is one.
type parser func(word string) (int, bool)

// parseNumbers returns the numbers of an item that has exactly one word for each parser.
func parseNumbers(item string, parsers ...parser) ([]int, bool) {
	words := strings.Split(item, " ")
	if len(words) != len(parsers) {
		return nil, false
	}
	numbers := make([]int, len(words))
	for i, word := range words {
		n, ok := parsers[i](word)
		if !ok {
			return nil, false
		}
		numbers[i] = n
	}
	return numbers, true
}

// unsigned returns the parser of numbers without a sign.
func unsigned(digits int) parser {
	return func(word string) (int, bool) {
		if word == "" || len(word) > digits || len(word) > 1 && word[0] == '0' {
			return 0, false
		}
		n := 0
		for i := range len(word) {
			if word[i] < '0' || word[i] > '9' {
				return 0, false
			}
			n = n*10 + int(word[i]-'0')
		}
		return n, true
	}
}

// signed returns the parser of numbers that may be negative. "-0" is no number.
func signed(digits int) parser {
	return func(word string) (int, bool) {
		size, negative := strings.CutPrefix(word, "-")
		n, ok := unsigned(digits)(size)
		if !negative {
			return n, ok
		}
		return -n, ok && n != 0
	}
}
