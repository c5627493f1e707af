package sequence

import "guidevane/api"

// HomeTurn returns the state after a turn home, and its ticks.
func HomeTurn(p api.SequencePlan, s api.SequenceState, f api.SequenceFault) (api.SequenceState, int, api.Errno) {
	m, e := machineIn(p, s, f)
	if e != api.OK {
		return api.SequenceState{}, 0, e
	}
	next, ticks, ok := m.homeTurn(s)
	return next, ticks, unless(ok, api.ErrOpen)
}

// HomeOf returns the states after each turn home until one that is home, and the ticks of all turns.
func HomeOf(p api.SequencePlan, s api.SequenceState, f api.SequenceFault) ([]api.SequenceState, int, api.Errno) {
	m, e := machineIn(p, s, f)
	if e != api.OK {
		return nil, 0, e
	}
	states, ticks, ok := m.home(s)
	return states, ticks, unless(ok, api.ErrNone)
}

// isHome returns whether a state has a safe step all of whose Needs are seen as on. In a plan that was checked only steady steps are Safe.
func (m machine) isHome(s api.SequenceState) bool {
	step := m.stepOf(s)
	return step.Safe && m.sees(step.Needs, s)
}

// homeTurn returns the state after a turn home, its ticks, and whether there is such a turn.
func (m machine) homeTurn(s api.SequenceState) (api.SequenceState, int, bool) {
	step, command := m.stepOf(s), none
	if isSteady(step) && !step.Safe {
		if len(step.Exits) == 0 && m.sees(step.Needs, s) {
			return api.SequenceState{}, 0, false
		}
		command = step.Home
	}
	next, ticks := m.turn(s, command)
	return next, ticks, true
}

// home returns the states after each turn home, the ticks of all turns, and whether it gets home: a way that has more turns than there are states has no end.
func (m machine) home(s api.SequenceState) ([]api.SequenceState, int, bool) {
	var passed []api.SequenceState
	sum := 0
	for !m.isHome(s) {
		next, ticks, ok := m.homeTurn(s)
		if !ok || len(passed) == m.states() {
			return nil, 0, false
		}
		passed, sum, s = append(passed, next), sum+ticks, next
	}
	return passed, sum, true
}
