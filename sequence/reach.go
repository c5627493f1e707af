package sequence

import (
	"cmp"
	"slices"

	"guidevane/api"
)

// ReachedIn returns the reached states with a fault.
func ReachedIn(p api.SequencePlan, f api.SequenceFault) ([]api.SequenceState, api.Errno) {
	checked, e := planOf(p)
	if e := first(e, checked.checkFault(f)); e != api.OK {
		return nil, e
	}
	return ascending(machine{checked, f}.reached()), api.OK
}

// TrapOf returns the first trap among the reached states.
func TrapOf(p api.SequencePlan) (api.SequenceRank, api.Errno) {
	checked, e := planOf(p)
	if e != api.OK {
		return api.SequenceRank{}, e
	}
	for _, f := range checked.faults() {
		m := machine{checked, f}
		isTrap := func(s api.SequenceState) bool {
			_, _, ok := m.home(s)
			return !ok
		}
		states := ascending(m.reached())
		if i := slices.IndexFunc(states, isTrap); i >= 0 {
			return api.SequenceRank{State: states[i], Fault: f}, api.OK
		}
	}
	return api.SequenceRank{}, api.ErrNone
}

// RanksOf returns the number of turns home from each reached state with each fault.
func RanksOf(p api.SequencePlan) ([]api.SequenceRank, api.Errno) {
	checked, e := planOf(p)
	if e != api.OK {
		return nil, e
	}
	var ranks []api.SequenceRank
	for _, f := range checked.faults() {
		m := machine{checked, f}
		for _, s := range ascending(m.reached()) {
			passed, _, ok := m.home(s)
			if !ok {
				return nil, api.ErrClash
			}
			ranks = append(ranks, api.SequenceRank{State: s, Fault: f, Rank: len(passed)})
		}
	}
	return ranks, api.OK
}

// LongestHome returns the greatest number of ticks that it takes to get home from a reached state with a fault.
func LongestHome(p api.SequencePlan) (int, api.Errno) {
	checked, e := planOf(p)
	if e != api.OK {
		return 0, e
	}
	longest := 0
	for _, f := range checked.faults() {
		m := machine{checked, f}
		for s := range m.reached() {
			_, ticks, ok := m.home(s)
			if !ok {
				return 0, api.ErrClash
			}
			longest = max(longest, ticks)
		}
	}
	return longest, api.OK
}

// reached returns all states to which turns without a fault lead, and then all to which turns with the fault lead from them.
func (m machine) reached() map[api.SequenceState]bool {
	states := map[api.SequenceState]bool{m.begin(): true}
	machine{m.plan, noFault()}.spread(states)
	m.spread(states)
	return states
}

// spread adds to states all those to which turns lead from them.
func (m machine) spread(states map[api.SequenceState]bool) {
	waiting := ascending(states)
	for len(waiting) > 0 {
		s := waiting[0]
		waiting = waiting[1:]
		for next := range m.after(s) {
			if !states[next] {
				states[next] = true
				waiting = append(waiting, next)
			}
		}
	}
}

// ascending returns states by steps, and then by signals.
func ascending(states map[api.SequenceState]bool) []api.SequenceState {
	var l []api.SequenceState
	for s := range states {
		l = append(l, s)
	}
	slices.SortFunc(l, func(a, b api.SequenceState) int {
		return cmp.Or(cmp.Compare(a.Step, b.Step), cmp.Compare(a.Signals, b.Signals))
	})
	return l
}
