package sequence

import (
	"slices"

	"guidevane/api"
)

// CheckHall returns the error of a hall, with the index of the rule.
func CheckHall(h api.SequenceHall) (int, api.Errno) {
	if e := first(
		checkWithin(h.Machines, 1, api.MaxSequenceMachines),
		checkMost(h.Rules, api.MaxSequenceRules)); e != api.OK {
		return 0, e
	}
	return firstItem(h.Rules, checkRule)
}

// BrokenIn returns the first machine for which a rule does not hold, and its first such rule.
func BrokenIn(h api.SequenceHall, steps []int) (api.SequenceBreak, api.Errno) {
	if e := checkSteps(h, steps); e != api.OK {
		return api.SequenceBreak{}, e
	}
	broken, ok := brokenIn(h, steps)
	return broken, unless(ok, api.ErrNone)
}

// MayEnter returns, with ErrRefused, the rule that is broken if a machine enters a step.
func MayEnter(h api.SequenceHall, steps []int, x api.SequenceEntry) (int, api.Errno) {
	if e := first(checkSteps(h, steps), checkIndex(x.Machine, len(steps)), checkAnyStep(x.Step)); e != api.OK {
		return 0, e
	}
	entered := slices.Clone(steps)
	entered[x.Machine] = x.Step
	broken, ok := brokenIn(h, entered)
	return broken.Rule, unless(!ok, api.ErrRefused)
}

// Voted returns the set of the signals that are in at least two of three sets.
func Voted(l [3]int) (int, api.Errno) {
	if e := checkEach(l[:], checkAnySet); e != api.OK {
		return 0, e
	}
	return l[0]&l[1] | l[0]&l[2] | l[1]&l[2], api.OK
}

func checkRule(r api.SequenceRule) api.Errno {
	return first(
		checkAnyStep(r.Step),
		checkAnyStep(r.Other),
		unless(within(r.Kind, 0, api.SequenceKinds-1), api.ErrKind))
}

// checkAnyStep returns the error of the index of a step that no plan has.
func checkAnyStep(step int) api.Errno {
	return checkIndex(step, api.MaxSequenceSteps)
}

// checkAnySet returns the error of a set of signals that belongs to no plan.
func checkAnySet(set int) api.Errno {
	return checkSet(set, api.MaxSequenceSignals)
}

// checkSteps returns the error of a hall, and then that of the steps of its machines.
func checkSteps(h api.SequenceHall, steps []int) api.Errno {
	_, e := CheckHall(h)
	return first(e, unless(len(steps) == h.Machines, api.ErrShape), checkEach(steps, checkAnyStep))
}

// brokenIn returns the first machine for which a rule does not hold, its first such rule, and whether there is one.
func brokenIn(h api.SequenceHall, steps []int) (api.SequenceBreak, bool) {
	for machine := range steps {
		isBroken := func(r api.SequenceRule) bool { return !holdsFor(machine, r, steps) }
		if rule := slices.IndexFunc(h.Rules, isBroken); rule >= 0 {
			return api.SequenceBreak{Machine: machine, Rule: rule}, true
		}
	}
	return api.SequenceBreak{}, false
}

func holdsFor(machine int, r api.SequenceRule, steps []int) bool {
	if steps[machine] != r.Step {
		return true
	}
	return isOther(machine, r.Other, steps) == (r.Kind == api.SequenceRequires)
}

// isOther returns whether a machine other than the given one is in a step.
func isOther(machine, step int, steps []int) bool {
	for i, s := range steps {
		if i != machine && s == step {
			return true
		}
	}
	return false
}
