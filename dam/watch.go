package dam

import (
	"slices"

	"guidevane/api"
)

// AskedFor returns the step that a deviation asks for.
func AskedFor(r api.DamRules, deviation int) (int, api.Errno) {
	checked, e := rulesOf(r)
	if e := first(e, checkDeviation(deviation)); e != api.OK {
		return 0, e
	}
	return checked.asked(deviation), api.OK
}

// Watched returns the state after a deviation.
func Watched(r api.DamRules, s api.DamState, deviation int) (api.DamState, api.Errno) {
	checked, e := rulesOf(r)
	if e := first(e, checked.checkState(s), checkDeviation(deviation)); e != api.OK {
		return api.DamState{}, e
	}
	return checked.watched(s, deviation), api.OK
}

// Lowered returns the state after a person lowers it to a step.
func Lowered(r api.DamRules, s api.DamState, x api.DamOrder) (api.DamState, api.Errno) {
	checked, e := rulesOf(r)
	if e := first(e, checked.checkState(s)); e != api.OK {
		return api.DamState{}, e
	}
	if e := checked.checkOrder(s, x); e != api.OK {
		return api.DamState{}, e
	}
	return api.DamState{Step: x.Step, Deviation: s.Deviation}, api.OK
}

// WatchOf returns the state after deviations, from the zero state on.
func WatchOf(r api.DamRules, deviations []int) (api.DamState, api.Errno) {
	checked, e := rulesOf(r)
	_, wrong := firstItem(len(deviations), func(i int) api.Errno { return checkDeviation(deviations[i]) })
	if e := first(e, checkMost(len(deviations), api.MaxDamDeviations), wrong); e != api.OK {
		return api.DamState{}, e
	}
	var s api.DamState
	for _, deviation := range deviations {
		s = checked.watched(s, deviation)
	}
	return s, api.OK
}

// DeviationOf returns the deviation of a movement from a forecast.
func DeviationOf(forecast api.Range, movement int) (int, api.Errno) {
	if e := first(
		checkSizes(api.MaxDamValue, forecast.Lo, forecast.Hi, movement),
		unless(forecast.Lo <= forecast.Hi, api.ErrOrder)); e != api.OK {
		return 0, e
	}
	return max(0, forecast.Lo-movement, movement-forecast.Hi), api.OK
}

func (r rules) asked(deviation int) int {
	asked := 0
	for i, up := range r.Up {
		if up <= deviation {
			asked = i + 1
		}
	}
	return asked
}

// watched returns the state after a deviation. One that raises the step is not calm in the new step, since no Down is greater than its Up.
func (r rules) watched(s api.DamState, deviation int) api.DamState {
	next := api.DamState{Step: max(s.Step, r.asked(deviation)), Deviation: deviation}
	if next.Step > 0 && deviation < r.Down[next.Step-1] {
		next.Calm = min(s.Calm+1, api.MaxDamCalm)
	}
	return next
}

// checkOrder returns the error of an order in a state without errors.
func (r rules) checkOrder(s api.DamState, x api.DamOrder) api.Errno {
	i := slices.IndexFunc(r.Persons, func(p api.DamPerson) bool { return p.Name == x.By })
	switch {
	case !isName(x.By):
		return api.ErrName
	case i < 0:
		return api.ErrMissing
	case x.Step < 0 || x.Step >= s.Step:
		return api.ErrRange
	case r.Persons[i].Rank < s.Step:
		return api.ErrAllowed
	case s.Calm < r.Hold || s.Deviation >= slices.Min(r.Down[x.Step:]):
		return api.ErrRefused
	}
	return api.OK
}
