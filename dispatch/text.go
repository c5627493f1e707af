package dispatch

import (
	"strconv"
	"strings"

	"guidevane/api"
)

// maxNumber is the greatest number of 7 digits.
const maxNumber = 9999999

// FormatPlant returns the string of a plant.
func FormatPlant(p api.DispatchPlant) string {
	items := []string{formatNumbers(p.Lo, p.Hi)}
	for _, m := range p.Modes {
		items = append(items, m.Name+" "+formatNumbers(m.Change, m.Energy, m.Start))
	}
	return strings.Join(items, ";")
}

// ParsePlant returns the plant with a string.
func ParsePlant(s string) (api.DispatchPlant, api.Errno) {
	if len(s) > api.MaxString {
		return api.DispatchPlant{}, api.ErrLarge
	}
	p, ok := parsePlant(s)
	if !ok {
		return api.DispatchPlant{}, api.ErrSyntax
	}
	if _, e := CheckPlant(p); e != api.OK {
		return api.DispatchPlant{}, e
	}
	return p, api.OK
}

// FormatTask returns the string of a task.
func FormatTask(t api.DispatchTask) string {
	items := []string{formatNumbers(t.Volume, t.Mode, t.Worth)}
	for _, h := range t.Hours {
		items = append(items, formatNumbers(h.Buy, h.Sell, h.Inflow))
	}
	return strings.Join(items, ";")
}

// ParseTask returns the task with a string.
func ParseTask(s string) (api.DispatchTask, api.Errno) {
	if len(s) > api.MaxString {
		return api.DispatchTask{}, api.ErrLarge
	}
	t, ok := parseTask(s)
	if !ok {
		return api.DispatchTask{}, api.ErrSyntax
	}
	return t, api.OK
}

func formatNumbers(numbers ...int) string {
	var words []string
	for _, n := range numbers {
		words = append(words, strconv.Itoa(n))
	}
	return strings.Join(words, " ")
}

// parsePlant returns the plant with a string, which may have errors, and whether the string is of the form of one.
func parsePlant(s string) (api.DispatchPlant, bool) {
	items := strings.Split(s, ";")
	lo, hi, ok := parseLimits(items[0])
	p := api.DispatchPlant{Lo: lo, Hi: hi}
	for _, item := range items[1:] {
		m, modeOK := parseMode(item)
		p.Modes, ok = append(p.Modes, m), ok && modeOK
	}
	return p, ok
}

func parseLimits(item string) (int, int, bool) {
	loWord, hiWord, _ := strings.Cut(item, " ")
	lo, loOK := parseNumber(loWord)
	hi, hiOK := parseNumber(hiWord)
	return lo, hi, loOK && hiOK && lo >= 0 && hi >= 0
}

func parseMode(item string) (api.DispatchMode, bool) {
	name, rest, _ := strings.Cut(item, " ")
	n, ok := parseThree(rest)
	m := api.DispatchMode{Name: name, Change: n[0], Energy: n[1], Start: n[2]}
	return m, ok && name != ""
}

// parseTask returns the task with a string, and whether the string is of the form of one.
func parseTask(s string) (api.DispatchTask, bool) {
	items := strings.Split(s, ";")
	n, ok := parseThree(items[0])
	ok = ok && n[0] >= 0 && n[1] >= 0
	t := api.DispatchTask{Volume: n[0], Mode: n[1], Worth: n[2]}
	for _, item := range items[1:] {
		n, hourOK := parseThree(item)
		t.Hours = append(t.Hours, api.DispatchHour{Buy: n[0], Sell: n[1], Inflow: n[2]})
		ok = ok && hourOK
	}
	return t, ok
}

// parseThree returns the three numbers that an item consists of, and whether it does.
func parseThree(item string) ([3]int, bool) {
	words := strings.Split(item, " ")
	var numbers [3]int
	if len(words) != len(numbers) {
		return [3]int{}, false
	}
	for i, word := range words {
		n, ok := parseNumber(word)
		if !ok {
			return [3]int{}, false
		}
		numbers[i] = n
	}
	return numbers, true
}

// parseNumber returns the number that a word is, and whether it is one. A number is written in one way only, so that its word must come back from it.
func parseNumber(word string) (int, bool) {
	n, err := strconv.Atoi(word)
	return n, err == nil && -maxNumber <= n && n <= maxNumber && strconv.Itoa(n) == word
}
