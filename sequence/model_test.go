package sequence_test

import (
	"math/rand/v2"
	"slices"
	"strconv"

	"guidevane/api"
)

// This file computes what the chapter defines once more: signal by signal, with reached states and ways home found among all states there are, and with all ways tried. Its plans are made at random, but the same ones in every run.

func random(seed uint64) *rand.Rand {
	return rand.New(rand.NewPCG(seed, 7))
}

func between(r *rand.Rand, lo, hi int) int {
	return lo + r.IntN(hi-lo+1)
}

func chosen[T any](r *rand.Rand, l ...T) T {
	return l[r.IntN(len(l))]
}

// kind says what random plans are like.
type kind struct{ signals, steps, exits int }

// randomPlan returns a plan without an error. Its steps lead down more often than up, so that it often has no trap.
func randomPlan(r *rand.Rand, k kind) api.SequencePlan {
	p := api.SequencePlan{}
	for i := range r.IntN(k.signals + 1) {
		p.Signals = append(p.Signals, "signal"+strconv.Itoa(i))
	}
	p.Start = randomSet(r, len(p.Signals))
	steps, up := between(r, 1, k.steps), chosen(r, 2, 10, 100)
	for i := range steps {
		p.Steps = append(p.Steps, randomStep(r, p, i, steps, k.exits, up))
	}
	return p
}

func randomSet(r *rand.Rand, signals int) int {
	return r.IntN(1 << signals)
}

// sparseSet returns a set that is often empty.
func sparseSet(r *rand.Rand, signals int) int {
	return chosen(r, 0, 0, randomSet(r, signals)&randomSet(r, signals))
}

func randomStep(r *rand.Rand, p api.SequencePlan, i, steps, exits, up int) api.SequenceStep {
	n := len(p.Signals)
	down := func() int {
		if i == 0 || r.IntN(up) == 0 {
			return r.IntN(steps)
		}
		return r.IntN(i)
	}
	s := api.SequenceStep{Name: "step" + strconv.Itoa(i), Needs: sparseSet(r, n), Trip: down()}
	if i == 0 {
		s.Needs = chosen(r, 0, 0, 0, 0, s.Needs)
	}
	if i > 0 && r.IntN(2) == 0 {
		s.Wait = between(r, 1, chosen(r, 3, 100, api.MaxSequenceWait))
		s.Time = between(r, 1, s.Wait)
		s.On, s.MakesOn = sparseSet(r, n), randomSet(r, n)
		s.Off, s.MakesOff = sparseSet(r, n)&^s.On, randomSet(r, n)&^s.MakesOn
		s.Next, s.Back = chosen(r, down(), r.IntN(steps)), down()
		return s
	}
	s.Safe = i == 0 || r.IntN(3) == 0
	for exit := range steps {
		if len(s.Exits) < exits && r.IntN(2) == 0 {
			s.Exits = append(s.Exits, exit)
		}
	}
	if len(s.Exits) > 0 {
		s.Home = s.Exits[r.IntN(len(s.Exits))]
		if i > 0 && r.IntN(up) > 0 {
			s.Home = s.Exits[0]
		}
	}
	return s
}

func randomState(r *rand.Rand, p api.SequencePlan) api.SequenceState {
	return at(r.IntN(len(p.Steps)), randomSet(r, len(p.Signals)))
}

func randomFault(r *rand.Rand, p api.SequencePlan) api.SequenceFault {
	return chosen(r, modelFaults(p)...)
}

func modelFaults(p api.SequencePlan) []api.SequenceFault {
	l := []api.SequenceFault{{Signal: -1}}
	for i := 0; i < len(p.Signals); i++ {
		l = append(l, api.SequenceFault{Signal: i, On: false})
		l = append(l, api.SequenceFault{Signal: i, On: true})
	}
	return l
}

func allStates(p api.SequencePlan) []api.SequenceState {
	var l []api.SequenceState
	for step := range p.Steps {
		for signals := range 1 << len(p.Signals) {
			l = append(l, at(step, signals))
		}
	}
	return l
}

// inSet divides instead of shifting.
func inSet(set, signal int) bool {
	for range signal {
		set /= 2
	}
	return set%2 == 1
}

func modelSees(set int, f api.SequenceFault, signal int) bool {
	if f.Signal == signal {
		return f.On
	}
	return inSet(set, signal)
}

// modelHas tells whether all signals of a set are seen as they should be.
func modelHas(p api.SequencePlan, wanted, set int, f api.SequenceFault, on bool) bool {
	for i := range p.Signals {
		if inSet(wanted, i) && modelSees(set, f, i) != on {
			return false
		}
	}
	return true
}

func modelTurn(p api.SequencePlan, s api.SequenceState, f api.SequenceFault, command int) (api.SequenceState, int) {
	x := p.Steps[s.Step]
	if !modelHas(p, x.Needs, s.Signals, f, true) {
		return at(x.Trip, s.Signals), 1
	}
	if x.Wait == 0 {
		if command < 0 {
			return s, 1
		}
		return at(command, s.Signals), 1
	}
	set := 0
	for i := range p.Signals {
		if inSet(x.MakesOn, i) || inSet(s.Signals, i) && !inSet(x.MakesOff, i) {
			set += []int{1, 2, 4, 8, 16}[i]
		}
	}
	if !modelHas(p, x.Needs, set, f, true) {
		return at(x.Trip, set), x.Time
	}
	if modelHas(p, x.On, set, f, true) && modelHas(p, x.Off, set, f, false) {
		return at(x.Next, set), x.Time
	}
	return at(x.Back, set), x.Wait
}

// modelAfter returns the states after one turn, for each command that may be given, and for none.
func modelAfter(p api.SequencePlan, s api.SequenceState, f api.SequenceFault) []api.SequenceState {
	next, _ := modelTurn(p, s, f, -1)
	l := []api.SequenceState{next}
	for _, command := range p.Steps[s.Step].Exits {
		next, _ := modelTurn(p, s, f, command)
		l = append(l, next)
	}
	return l
}

// modelReached looks at all states again and again, until no further one is reached.
func modelReached(p api.SequencePlan, f api.SequenceFault) []api.SequenceState {
	is := map[api.SequenceState]bool{at(0, p.Start): true}
	for _, fault := range []api.SequenceFault{{Signal: -1}, f} {
		for before := -1; before < len(is); {
			before = len(is)
			for _, s := range allStates(p) {
				if is[s] {
					for _, next := range modelAfter(p, s, fault) {
						is[next] = true
					}
				}
			}
		}
	}
	return slices.DeleteFunc(allStates(p), func(s api.SequenceState) bool { return !is[s] })
}

func modelIsHome(p api.SequencePlan, s api.SequenceState, f api.SequenceFault) bool {
	x := p.Steps[s.Step]
	return x.Wait == 0 && x.Safe && modelHas(p, x.Needs, s.Signals, f, true)
}

func modelHomeTurn(p api.SequencePlan, s api.SequenceState, f api.SequenceFault) (api.SequenceState, int, api.Errno) {
	x := p.Steps[s.Step]
	if x.Wait > 0 || x.Safe {
		next, ticks := modelTurn(p, s, f, -1)
		return next, ticks, api.OK
	}
	if len(x.Exits) == 0 && modelHas(p, x.Needs, s.Signals, f, true) {
		return api.SequenceState{}, 0, api.ErrOpen
	}
	next, ticks := modelTurn(p, s, f, x.Home)
	return next, ticks, api.OK
}

// journey is the number of turns home, and their ticks.
type journey struct{ turns, ticks int }

// modelHomes returns the journeys from all states that get home, found from home on backwards.
func modelHomes(p api.SequencePlan, f api.SequenceFault) map[api.SequenceState]journey {
	homes := map[api.SequenceState]journey{}
	for before := -1; before < len(homes); {
		before = len(homes)
		for _, s := range allStates(p) {
			if modelIsHome(p, s, f) {
				homes[s] = journey{}
				continue
			}
			next, ticks, e := modelHomeTurn(p, s, f)
			if rest, ok := homes[next]; ok && e == api.OK {
				homes[s] = journey{rest.turns + 1, rest.ticks + ticks}
			}
		}
	}
	return homes
}

// modelRanks returns the ranks of all reached states with all faults, the first trap or nil, and the longest time home.
func modelRanks(p api.SequencePlan) ([]api.SequenceRank, *api.SequenceRank, int) {
	var ranks []api.SequenceRank
	longest := 0
	for _, f := range modelFaults(p) {
		homes := modelHomes(p, f)
		for _, s := range modelReached(p, f) {
			j, ok := homes[s]
			if !ok {
				return nil, &api.SequenceRank{State: s, Fault: f}, 0
			}
			ranks = append(ranks, api.SequenceRank{State: s, Fault: f, Rank: j.turns})
			longest = max(longest, j.ticks)
		}
	}
	return ranks, nil, longest
}

// modelRankOf returns the first rank of a state with a fault, or -1.
func modelRankOf(l []api.SequenceRank, s api.SequenceState, f api.SequenceFault) int {
	for _, r := range l {
		if r.State == s && r.Fault == f {
			return r.Rank
		}
	}
	return -1
}

// modelCheckRanks checks ranks whose states, faults and numbers have no errors.
func modelCheckRanks(p api.SequencePlan, l []api.SequenceRank) (int, api.Errno) {
	for i, r := range l {
		if modelRankOf(l[:i], r.State, r.Fault) >= 0 {
			return i, api.ErrDouble
		}
	}
	if modelRankOf(l, at(0, p.Start), api.SequenceFault{Signal: -1}) < 0 {
		return 0, api.ErrGap
	}
	for i, r := range l {
		for _, f := range modelFaults(p) {
			if r.Fault.Signal < 0 && modelRankOf(l, r.State, f) < 0 {
				return i, api.ErrGap
			}
		}
		for _, next := range modelAfter(p, r.State, r.Fault) {
			if modelRankOf(l, next, r.Fault) < 0 {
				return i, api.ErrGap
			}
		}
		home := modelIsHome(p, r.State, r.Fault)
		if home && r.Rank > 0 || !home && r.Rank == 0 {
			return i, api.ErrForm
		}
		if next, _, e := modelHomeTurn(p, r.State, r.Fault); !home && (e != api.OK || modelRankOf(l, next, r.Fault) >= r.Rank) {
			return i, api.ErrProof
		}
	}
	return 0, api.OK
}

// modelRun follows commands, and goes on after each one for as many turns as there are states and more.
func modelRun(p api.SequencePlan, s api.SequenceState, f api.SequenceFault, commands []int) ([]api.SequenceState, int, api.Errno) {
	var l []api.SequenceState
	sum := 0
	for _, command := range commands {
		if !slices.Contains(p.Steps[s.Step].Exits, command) {
			return nil, 0, api.ErrRefused
		}
		for turn := 0; turn == 0 || p.Steps[s.Step].Wait > 0; turn++ {
			next, ticks := modelTurn(p, s, f, command)
			l, sum, s = append(l, next), sum+ticks, next
			if turn > 400 {
				return nil, 0, api.ErrNone
			}
		}
	}
	return l, sum, api.OK
}

// modelFastest tries all ways, those with fewer commands first, those with as many in lexicographic order.
func modelFastest(p api.SequencePlan, s api.SequenceState, to int) ([]int, int, api.Errno) {
	best, found, least := []int(nil), false, 0
	var try func(s api.SequenceState, commands []int, ticks, left int)
	try = func(s api.SequenceState, commands []int, ticks, left int) {
		if left == 0 {
			if s.Step == to && (!found || ticks < least) {
				best, found, least = slices.Clone(commands), true, ticks
			}
			return
		}
		for _, command := range p.Steps[s.Step].Exits {
			l, more, e := modelRun(p, s, api.SequenceFault{Signal: -1}, []int{command})
			if e == api.OK {
				try(l[len(l)-1], append(commands, command), ticks+more, left-1)
			}
		}
	}
	for n := range 11 {
		try(s, nil, 0, n)
	}
	if !found {
		return nil, 0, api.ErrNone
	}
	return best, least, api.OK
}

// modelBroken looks at the rules machine by machine.
func modelBroken(h api.SequenceHall, steps []int) (api.SequenceBreak, api.Errno) {
	for m, step := range steps {
		for i, rule := range h.Rules {
			others := 0
			for o, other := range steps {
				if o != m && other == rule.Other {
					others++
				}
			}
			if step == rule.Step && (rule.Kind == api.SequenceExcludes && others > 0 || rule.Kind == api.SequenceRequires && others == 0) {
				return api.SequenceBreak{Machine: m, Rule: i}, api.OK
			}
		}
	}
	return api.SequenceBreak{}, api.ErrNone
}
