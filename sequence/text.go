package sequence

import (
	"strconv"
	"strings"

	"guidevane/api"
)

// maxNumber is the greatest number of 6 digits.
const maxNumber = 999999

// FormatPlan returns the string of a plan.
func FormatPlan(p api.SequencePlan) string {
	var s strings.Builder
	for _, name := range p.Signals {
		s.WriteString(name + " ")
	}
	s.WriteString(strconv.Itoa(p.Start))
	for _, step := range p.Steps {
		s.WriteString(";" + formatStep(step))
	}
	return s.String()
}

// ParsePlan returns the plan with a string.
func ParsePlan(s string) (api.SequencePlan, api.Errno) {
	if len(s) > api.MaxString {
		return api.SequencePlan{}, api.ErrLarge
	}
	p, ok := parsePlan(s)
	if !ok {
		return api.SequencePlan{}, api.ErrSyntax
	}
	if _, e := CheckPlan(p); e != api.OK {
		return api.SequencePlan{}, e
	}
	return p, api.OK
}

// FormatState returns the string of a state.
func FormatState(s api.SequenceState) string {
	return formatNumbers(" ", s.Step, s.Signals)
}

// ParseState returns the state with a string.
func ParseState(s string) (api.SequenceState, api.Errno) {
	numbers, ok := parseNumbers(strings.Split(s, " "))
	if !ok || len(numbers) != 2 {
		return api.SequenceState{}, api.ErrSyntax
	}
	return api.SequenceState{Step: numbers[0], Signals: numbers[1]}, api.OK
}

func formatNumbers(between string, numbers ...int) string {
	var words []string
	for _, n := range numbers {
		words = append(words, strconv.Itoa(n))
	}
	return strings.Join(words, between)
}

func formatStep(s api.SequenceStep) string {
	safe := "-"
	if s.Safe {
		safe = "s"
	}
	begin := s.Name + " " + safe + " " + formatNumbers(" ", s.Needs, s.Trip, s.Wait) + " "
	if isSteady(s) {
		return begin + strconv.Itoa(s.Home) + " " + formatExits(s.Exits)
	}
	return begin + formatNumbers(" ", s.On, s.Off, s.MakesOn, s.MakesOff, s.Time, s.Next, s.Back)
}

func formatExits(exits []int) string {
	if len(exits) == 0 {
		return "-"
	}
	return formatNumbers(",", exits...)
}

// parsePlan returns the plan with a string, which may have errors, and whether the string is of the form of one.
func parsePlan(s string) (api.SequencePlan, bool) {
	parts := strings.Split(s, ";")
	names := strings.Split(parts[0], " ")
	last := len(names) - 1
	start, ok := parseNumber(names[last])
	p := api.SequencePlan{Start: start}
	for _, name := range names[:last] {
		p.Signals, ok = append(p.Signals, name), ok && name != ""
	}
	for _, part := range parts[1:] {
		step, stepOK := parseStep(part)
		p.Steps, ok = append(p.Steps, step), ok && stepOK
	}
	return p, ok
}

func parseStep(part string) (api.SequenceStep, bool) {
	words := strings.Split(part, " ")
	if len(words) < 5 || words[0] == "" {
		return api.SequenceStep{}, false
	}
	safe, safeOK := parseSafe(words[1])
	numbers, ok := parseNumbers(words[2:5])
	if !safeOK || !ok {
		return api.SequenceStep{}, false
	}
	s := api.SequenceStep{Name: words[0], Safe: safe, Needs: numbers[0], Trip: numbers[1], Wait: numbers[2]}
	if isSteady(s) {
		return parseSteady(s, words[5:])
	}
	return parseMoving(s, words[5:])
}

func parseSafe(word string) (bool, bool) {
	return word == "s", word == "s" || word == "-"
}

// parseSteady returns a step with the words that only a steady one has.
func parseSteady(s api.SequenceStep, words []string) (api.SequenceStep, bool) {
	if len(words) != 2 {
		return api.SequenceStep{}, false
	}
	var homeOK, exitsOK bool
	s.Home, homeOK = parseNumber(words[0])
	s.Exits, exitsOK = parseExits(words[1])
	return s, homeOK && exitsOK
}

func parseExits(word string) ([]int, bool) {
	if word == "-" {
		return nil, true
	}
	return parseNumbers(strings.Split(word, ","))
}

// parseMoving returns a step with the words that only a moving one has.
func parseMoving(s api.SequenceStep, words []string) (api.SequenceStep, bool) {
	n, ok := parseNumbers(words)
	if !ok || len(n) != 7 {
		return api.SequenceStep{}, false
	}
	s.On, s.Off, s.MakesOn, s.MakesOff = n[0], n[1], n[2], n[3]
	s.Time, s.Next, s.Back = n[4], n[5], n[6]
	return s, true
}

// parseNumbers returns the numbers that words are, and whether all of them are numbers.
func parseNumbers(words []string) ([]int, bool) {
	var numbers []int
	for _, word := range words {
		n, ok := parseNumber(word)
		if !ok {
			return nil, false
		}
		numbers = append(numbers, n)
	}
	return numbers, true
}

// parseNumber returns the number that a word is, and whether it is one. A number is written in one way only, so that its word must come back from it.
func parseNumber(word string) (int, bool) {
	n, err := strconv.Atoi(word)
	return n, err == nil && within(n, 0, maxNumber) && strconv.Itoa(n) == word
}
