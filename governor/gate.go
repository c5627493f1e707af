package governor

import "guidevane/api"

// CheckGate returns the error of a gate.
func CheckGate(g api.GovernorGate) api.Errno {
	return first(
		checkPosition(g.Lo),
		checkPosition(g.Hi),
		checkPosition(g.At),
		checkWithin(g.Rate, 1, api.MaxGovernorPosition),
		unless(g.Lo <= g.Hi, api.ErrOrder),
		unless(within(g.At, g.Lo, g.Hi), api.ErrBreak))
}

// CheckRules returns the error of rules.
func CheckRules(r api.GovernorRules) api.Errno {
	return first(
		checkWithin(r.Band, 0, api.MaxGovernorSpeed),
		checkWithin(r.Num, 0, api.MaxGovernorGain),
		checkWithin(r.Den, 1, api.MaxGovernorGain),
		checkPosition(r.Set))
}

// WantedFor returns the wanted position for a deviation of the speed.
func WantedFor(r api.GovernorRules, deviation int) (int, api.Errno) {
	if e := first(CheckRules(r), checkSpeed(deviation)); e != api.OK {
		return 0, e
	}
	return wantedFor(r, deviation), api.OK
}

// GateStep returns a gate after a step towards a wanted position.
func GateStep(g api.GovernorGate, wanted int) (api.GovernorGate, api.Errno) {
	if e := first(CheckGate(g), checkSpeed(wanted)); e != api.OK {
		return api.GovernorGate{}, e
	}
	return stepped(g, wanted), api.OK
}

// GateRun returns the positions of a gate that is moved by rules for the deviation of each tick.
func GateRun(g api.GovernorGate, r api.GovernorRules, deviations []int) ([]int, api.Errno) {
	if e := first(CheckGate(g), CheckRules(r), checkMost(deviations, api.MaxGovernorTicks), checkEach(deviations, checkSpeed)); e != api.OK {
		return nil, e
	}
	var positions []int
	for _, deviation := range deviations {
		g = stepped(g, wantedFor(r, deviation))
		positions = append(positions, g.At)
	}
	return positions, api.OK
}

// TicksTo returns after how many steps a gate is where it goes.
func TicksTo(g api.GovernorGate, wanted int) (int, api.Errno) {
	if e := first(CheckGate(g), checkSpeed(wanted)); e != api.OK {
		return 0, e
	}
	way := sizeOf(goalOf(g, wanted) - g.At)
	return (way + g.Rate - 1) / g.Rate, api.OK
}

func checkPosition(position int) api.Errno {
	return checkWithin(position, 0, api.MaxGovernorPosition)
}

// checkSpeed returns the error of a deviation, or of a wanted position, which has the same limit.
func checkSpeed(speed int) api.Errno {
	return checkUpTo(speed, api.MaxGovernorSpeed)
}

func wantedFor(r api.GovernorRules, deviation int) int {
	beyond := deviation - moved(deviation, -r.Band, r.Band)
	return r.Set - r.Num*beyond/r.Den
}

// goalOf returns where a gate goes that shall be moved to a wanted position.
func goalOf(g api.GovernorGate, wanted int) int {
	return moved(wanted, g.Lo, g.Hi)
}

func stepped(g api.GovernorGate, wanted int) api.GovernorGate {
	g.At += moved(goalOf(g, wanted)-g.At, -g.Rate, g.Rate)
	return g
}
