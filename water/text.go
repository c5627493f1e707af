package water

import (
	"strconv"
	"strings"

	"guidevane/api"
)

// maxNumber is the greatest number of 7 digits.
const maxNumber = 9999999

// FormatNet returns the string of a net.
func FormatNet(n api.WaterNet) string {
	return formatItems(n.Nodes, formatNode) + ";" + formatItems(n.Conduits, formatConduit)
}

// ParseNet returns the net with a string.
func ParseNet(s string) (api.WaterNet, api.Errno) {
	if len(s) > api.MaxString {
		return api.WaterNet{}, api.ErrLarge
	}
	n, ok := parseNet(s)
	if !ok {
		return api.WaterNet{}, api.ErrSyntax
	}
	if _, e := CheckNet(n); e != api.OK {
		return api.WaterNet{}, e
	}
	return n, api.OK
}

func formatItems[T any](items []T, format func(item T) string) string {
	words := make([]string, len(items))
	for i, item := range items {
		words[i] = format(item)
	}
	return strings.Join(words, ",")
}

func formatNode(x api.WaterNode) string {
	if x.Lake {
		return x.Name + "=" + strconv.Itoa(x.Head)
	}
	return x.Name + "+" + strconv.Itoa(x.Draw)
}

func formatConduit(c api.WaterConduit) string {
	valve := "n"
	if c.Valve && c.Open {
		valve = "o"
	} else if c.Valve {
		valve = "c"
	}
	words := []string{c.Name, strconv.Itoa(c.From), strconv.Itoa(c.To), strconv.Itoa(c.Resist), valve}
	return strings.Join(words, " ")
}

// parseNet returns the net with a string, which may have errors, and whether the string is of the form of one.
func parseNet(s string) (api.WaterNet, bool) {
	parts := strings.Split(s, ";")
	if len(parts) != 2 {
		return api.WaterNet{}, false
	}
	nodes, nodesOK := parseItems(parts[0], parseNode)
	conduits, conduitsOK := parseItems(parts[1], parseConduit)
	return api.WaterNet{Nodes: nodes, Conduits: conduits}, nodesOK && conduitsOK
}

func parseItems[T any](s string, parse func(item string) (T, bool)) ([]T, bool) {
	var items []T
	for _, word := range strings.Split(s, ",") {
		item, ok := parse(word)
		if !ok {
			return nil, false
		}
		items = append(items, item)
	}
	return items, true
}

func parseNode(s string) (api.WaterNode, bool) {
	i := strings.IndexAny(s, "=+")
	if i < 0 {
		return api.WaterNode{}, false
	}
	name, word := s[:i], s[i+1:]
	if s[i] == '=' {
		head, ok := parseNumber(word, 0)
		return api.WaterNode{Name: name, Lake: true, Head: head}, ok
	}
	draw, ok := parseNumber(word, -maxNumber)
	return api.WaterNode{Name: name, Draw: draw}, ok
}

func parseConduit(s string) (api.WaterConduit, bool) {
	words := strings.Split(s, " ")
	if len(words) != 5 {
		return api.WaterConduit{}, false
	}
	from, fromOK := parseNumber(words[1], 0)
	to, toOK := parseNumber(words[2], 0)
	resist, resistOK := parseNumber(words[3], 0)
	valve, open, valveOK := parseValve(words[4])
	c := api.WaterConduit{Name: words[0], From: from, To: to, Resist: resist, Valve: valve, Open: open}
	return c, fromOK && toOK && resistOK && valveOK
}

// parseValve returns whether there is a valve, whether the conduit is open, and whether the word is one of a valve.
func parseValve(word string) (bool, bool, bool) {
	switch word {
	case "o":
		return true, true, true
	case "c":
		return true, false, true
	case "n":
		return false, true, true
	}
	return false, false, false
}

// parseNumber returns the number that a word is, and whether it is one, from lo on. A number is written in one way only, so that its word must come back from it.
func parseNumber(word string, lo int) (int, bool) {
	n, err := strconv.Atoi(word)
	return n, err == nil && within(n, lo, maxNumber) && strconv.Itoa(n) == word
}
