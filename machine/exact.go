package machine

import (
	"cmp"
	"slices"

	"guidevane/api"
)

// The places of a triple.
const (
	atHead = iota
	atFlow
	atPower
	places
)

// triple is a head, a flow and a power, or the numbers by which a line multiplies them.
type triple [places]int

// exact is a spot whose head, flow and power have one denominator above 0, not in lowest terms. They may be too large for a result.
type exact struct {
	numbers triple
	den     int
}

func tripleOf(p api.MachinePoint) triple {
	return triple{atHead: p.Head, atFlow: p.Flow, atPower: p.Power}
}

func exactOf(p api.MachinePoint) exact {
	return exact{tripleOf(p), 1}
}

// between returns the spot that is a part of the way from one spot to another one of the same denominator.
func between(a, b exact, part api.Frac) exact {
	x := exact{den: a.den * part.Den}
	for place := range places {
		x.numbers[place] = a.numbers[place]*part.Den + (b.numbers[place]-a.numbers[place])*part.Num
	}
	return x
}

func (x exact) frac(place int) api.Frac {
	return lowest(x.numbers[place], x.den)
}

// spot returns the spot in lowest terms, unless a part of it is too large.
func (x exact) spot() (api.MachineSpot, api.Errno) {
	s := api.MachineSpot{Head: x.frac(atHead), Flow: x.frac(atFlow), Power: x.frac(atPower)}
	if e := first(checkLarge(s.Head), checkLarge(s.Flow), checkLarge(s.Power)); e != api.OK {
		return api.MachineSpot{}, e
	}
	return s, api.OK
}

func spotsOf(list []exact) ([]api.MachineSpot, api.Errno) {
	var spots []api.MachineSpot
	for _, x := range list {
		s, e := x.spot()
		if e != api.OK {
			return nil, e
		}
		spots = append(spots, s)
	}
	return spots, api.OK
}

// orderedSpots returns each spot once, ordered by head, then by flow, then by power.
func orderedSpots(list []exact) ([]api.MachineSpot, api.Errno) {
	spots, e := spotsOf(list)
	slices.SortFunc(spots, compareSpots)
	return slices.Compact(spots), e
}

func compareSpots(a, b api.MachineSpot) int {
	return cmp.Or(compare(a.Head, b.Head), compare(a.Flow, b.Flow), compare(a.Power, b.Power))
}

// compareAt compares the numbers of two spots at a place.
func compareAt(place int, a, b exact) int {
	return cmp.Compare(a.numbers[place]*b.den, b.numbers[place]*a.den)
}

// lineOfHead returns the line of all spots with a head.
func lineOfHead(head int) api.MachineLine {
	return api.MachineLine{Head: 1, Value: head}
}

// missBy returns by how much a spot misses a line, times the spot's denominator: 0 on the line, and on its two sides above or below 0.
func missBy(x exact, l api.MachineLine) int {
	miss := -l.Value * x.den
	for place, factor := range (triple{atHead: l.Head, atFlow: l.Flow, atPower: l.Power}) {
		miss += factor * x.numbers[place]
	}
	return miss
}

// onLine returns the spots of a polyline of one denominator on a line, along the polyline. Of a piece that lies on the line they are its ends, so that it is enough to look for corners on the line, and for pieces that cross it.
func onLine(polyline []exact, l api.MachineLine) []exact {
	var spots []exact
	for i, x := range polyline {
		miss := missBy(x, l)
		if i > 0 {
			last := polyline[i-1]
			if before := missBy(last, l); before < 0 && miss > 0 || before > 0 && miss < 0 {
				spots = append(spots, between(last, x, lowest(before, before-miss)))
			}
		}
		if miss == 0 {
			spots = append(spots, x)
		}
	}
	return spots
}
