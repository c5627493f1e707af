package sequence

import (
	"cmp"
	"slices"

	"guidevane/api"
)

// way is commands, and the ticks of all turns that they need.
type way struct {
	commands []int
	ticks    int
}

// RunOf returns the states after each turn of a way, and its time.
func RunOf(p api.SequencePlan, s api.SequenceState, x api.SequenceRun) ([]api.SequenceState, int, api.Errno) {
	m, e := machineIn(p, s, x.Fault)
	switch {
	case e != api.OK:
		return nil, 0, e
	case !isSteady(m.stepOf(s)):
		return nil, 0, api.ErrState
	case len(x.Commands) > api.MaxSequenceCommands:
		return nil, 0, api.ErrLarge
	}
	return m.run(s, x.Commands)
}

// FastestWay returns the commands of the fastest way from a state to a step, and its time.
func FastestWay(p api.SequencePlan, s api.SequenceState, to int) ([]int, int, api.Errno) {
	m, e := machineIn(p, s, noFault())
	if e := first(e, checkIndex(to, len(m.Steps))); e != api.OK {
		return nil, 0, e
	}
	if !isSteady(m.stepOf(s)) || !isSteady(m.Steps[to]) {
		return nil, 0, api.ErrState
	}
	ways := m.waysTo(to, s)
	if len(ways) == 0 {
		return nil, 0, api.ErrNone
	}
	fastest := slices.MinFunc(ways, compareWays)
	return fastest.commands, fastest.ticks, api.OK
}

func (m machine) run(s api.SequenceState, commands []int) ([]api.SequenceState, int, api.Errno) {
	var states []api.SequenceState
	sum := 0
	for _, command := range commands {
		if !slices.Contains(m.stepOf(s).Exits, command) {
			return nil, 0, api.ErrRefused
		}
		part, ticks, ok := m.follow(s, command)
		if !ok {
			return nil, 0, api.ErrNone
		}
		states, sum, s = append(states, part...), sum+ticks, part[len(part)-1]
	}
	return states, sum, api.OK
}

// follow returns the states after each turn from a command on, the ticks of all turns, and whether a steady step is entered again: more moving steps than there are states have no end.
func (m machine) follow(s api.SequenceState, command int) ([]api.SequenceState, int, bool) {
	s, sum := m.turn(s, command)
	part := []api.SequenceState{s}
	for !isSteady(m.stepOf(s)) {
		if len(part) > m.states() {
			return nil, 0, false
		}
		next, ticks := m.turn(s, none)
		part, sum, s = append(part, next), sum+ticks, next
	}
	return part, sum, true
}

// waysTo returns ways from a state to a step, among them the fastest one.
func (m machine) waysTo(to int, s api.SequenceState) []way {
	ways := map[api.SequenceState]way{s: {}}
	found := endingIn(to, ways)
	for range api.MaxSequenceCommands {
		ways = m.longer(ways)
		found = append(found, endingIn(to, ways)...)
	}
	return found
}

// endingIn returns those of ways that end in a step, in no order.
func endingIn(step int, ways map[api.SequenceState]way) []way {
	var found []way
	for end, w := range ways {
		if end.Step == step {
			found = append(found, w)
		}
	}
	return found
}

// longer returns the best ways with one command more, by the states in which they end. No other ways need to be made longer, since the beginning of a best way is the best one, too, of as many commands to where it ends.
func (m machine) longer(ways map[api.SequenceState]way) map[api.SequenceState]way {
	best := map[api.SequenceState]way{}
	for s, w := range ways {
		for _, command := range m.stepOf(s).Exits {
			part, ticks, ok := m.follow(s, command)
			if !ok {
				continue
			}
			end := part[len(part)-1]
			next := way{append(slices.Clone(w.commands), command), w.ticks + ticks}
			if old, exists := best[end]; !exists || compareWays(next, old) < 0 {
				best[end] = next
			}
		}
	}
	return best
}

// compareWays puts the faster way first, then that with fewer commands, then the lexicographically first one.
func compareWays(a, b way) int {
	return cmp.Or(
		cmp.Compare(a.ticks, b.ticks),
		cmp.Compare(len(a.commands), len(b.commands)),
		slices.Compare(a.commands, b.commands))
}
