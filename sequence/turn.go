package sequence

import (
	"iter"
	"slices"

	"guidevane/api"
)

// machine is a machine that is moved by a plan, with a fault.
type machine struct {
	plan
	fault api.SequenceFault
}

// SeenIn returns what is seen in a state with a fault.
func SeenIn(p api.SequencePlan, s api.SequenceState, f api.SequenceFault) (int, api.Errno) {
	m, e := machineIn(p, s, f)
	if e != api.OK {
		return 0, e
	}
	return m.seen(s.Signals), api.OK
}

// TurnOf returns the state after a turn, and its ticks.
func TurnOf(p api.SequencePlan, s api.SequenceState, x api.SequenceTurn) (api.SequenceState, int, api.Errno) {
	m, e := machineIn(p, s, x.Fault)
	switch {
	case e != api.OK:
		return api.SequenceState{}, 0, e
	case !slices.Contains(m.commands(s), x.Command):
		return api.SequenceState{}, 0, api.ErrRefused
	}
	next, ticks := m.turn(s, x.Command)
	return next, ticks, api.OK
}

// machineIn checks a plan, a state and a fault, and returns the machine with this plan and this fault.
func machineIn(p api.SequencePlan, s api.SequenceState, f api.SequenceFault) (machine, api.Errno) {
	checked, e := planOf(p)
	if e := first(e, checked.checkState(s), checked.checkFault(f)); e != api.OK {
		return machine{}, e
	}
	return machine{checked, f}, api.OK
}

func (m machine) seen(signals int) int {
	if m.fault.Signal == none {
		return signals
	}
	failed := 1 << m.fault.Signal
	if m.fault.On {
		return signals | failed
	}
	return signals &^ failed
}

// stepOf returns the step of a state.
func (m machine) stepOf(s api.SequenceState) api.SequenceStep {
	return m.Steps[s.Step]
}

// sees returns whether all signals of a set are seen as on in a state.
func (m machine) sees(set int, s api.SequenceState) bool {
	return set&^m.seen(s.Signals) == 0
}

// commands returns the commands that may be given in a state, and that of a turn without one.
func (m machine) commands(s api.SequenceState) []int {
	return append([]int{none}, m.stepOf(s).Exits...)
}

// turn returns the state after a turn with a command that may be given, and its ticks.
func (m machine) turn(s api.SequenceState, command int) (api.SequenceState, int) {
	step := m.stepOf(s)
	switch {
	case !m.sees(step.Needs, s):
		s.Step = step.Trip
	case !isSteady(step):
		return m.moved(s)
	case command != none:
		s.Step = command
	}
	return s, 1
}

// moved returns the state after a turn in a moving step whose Needs are seen as on, and its ticks.
func (m machine) moved(s api.SequenceState) (api.SequenceState, int) {
	step := m.stepOf(s)
	s.Signals = s.Signals&^step.MakesOff | step.MakesOn
	isOff := step.Off&m.seen(s.Signals) == 0
	switch {
	case !m.sees(step.Needs, s):
		s.Step = step.Trip
	case isOff && m.sees(step.On, s):
		s.Step = step.Next
	default:
		s.Step = step.Back
		return s, step.Wait
	}
	return s, step.Time
}

// after ranges over the states after one turn, with each command and without.
func (m machine) after(s api.SequenceState) iter.Seq[api.SequenceState] {
	return func(yield func(next api.SequenceState) bool) {
		for _, command := range m.commands(s) {
			if next, _ := m.turn(s, command); !yield(next) {
				return
			}
		}
	}
}
