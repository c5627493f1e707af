package dam

import "guidevane/api"

// rules are rules that were checked.
type rules struct{ api.DamRules }

// CheckRules returns the error of rules, with the index of the step or of the person.
func CheckRules(r api.DamRules) (int, api.Errno) {
	steps := len(r.Up)
	if e := first(
		unless(len(r.Down) == steps, api.ErrShape),
		checkCount(steps, api.MaxDamSteps)); e != api.OK {
		return 0, e
	}
	if i, e := firstItem(steps, func(i int) api.Errno { return checkStep(r, i) }); e != api.OK {
		return i, e
	}
	if e := first(
		checkWithin(0, api.MaxDamCalm, r.Hold),
		checkMost(len(r.Persons), api.MaxDamPersons)); e != api.OK {
		return 0, e
	}
	checkName := newNames()
	return firstItem(len(r.Persons), func(i int) api.Errno {
		p := r.Persons[i]
		return first(checkName(p.Name), checkWithin(1, steps, p.Rank))
	})
}

// checkStep returns the error of the step with an index.
func checkStep(r api.DamRules, i int) api.Errno {
	up, down := r.Up[i], r.Down[i]
	ascends := i == 0 || up > r.Up[i-1] && down >= r.Down[i-1]
	return first(
		checkWithin(1, api.MaxDamDeviation, up, down),
		unless(down <= up, api.ErrForm),
		unless(ascends, api.ErrOrder))
}

func rulesOf(r api.DamRules) (rules, api.Errno) {
	if _, e := CheckRules(r); e != api.OK {
		return rules{}, e
	}
	return rules{r}, api.OK
}

func (r rules) checkState(s api.DamState) api.Errno {
	return first(
		checkWithin(0, len(r.Up), s.Step),
		checkWithin(0, api.MaxDamCalm, s.Calm),
		checkDeviation(s.Deviation),
		unless(s.Step > 0 || s.Calm == 0, api.ErrClash))
}

func checkDeviation(deviation int) api.Errno {
	return checkWithin(0, api.MaxDamDeviation, deviation)
}
