package surge

import "guidevane/api"

// chamber is rules that were checked, and both ends of their range of frictions.
type chamber struct {
	api.SurgeRules
	ends [2]int
}

// CheckRules returns the error of rules.
func CheckRules(r api.SurgeRules) api.Errno {
	return first(
		checkWithin(r.Inertia, 1, api.MaxSurgeInertia),
		checkWithin(r.Area, 1, api.MaxSurgeArea),
		checkFriction(r.Friction.Lo),
		checkFriction(r.Friction.Hi),
		checkFriction(r.Throttle),
		unless(r.Friction.Lo <= r.Friction.Hi, api.ErrOrder),
		unless(2001*r.Friction.Hi+4001*r.Throttle+2000 <= 1000*r.Inertia, api.ErrClash))
}

// CheckState returns the error of rules, or that of a state.
func CheckState(r api.SurgeRules, s api.SurgeState) api.Errno {
	return first(CheckRules(r), checkState(s))
}

// CheckBox returns the error of rules, or that of a box.
func CheckBox(r api.SurgeRules, b api.SurgeBox) api.Errno {
	return first(CheckRules(r), checkBox(b))
}

func checkFriction(friction int) api.Errno {
	return checkWithin(friction, 0, api.MaxSurgeFriction)
}

// chamberOf checks rules.
func chamberOf(r api.SurgeRules) (chamber, api.Errno) {
	if e := CheckRules(r); e != api.OK {
		return chamber{}, e
	}
	return chamber{SurgeRules: r, ends: [2]int{r.Friction.Lo, r.Friction.Hi}}, api.OK
}

// checkOwn returns the error of a friction that must lie in the range of the rules.
func (c chamber) checkOwn(friction int) api.Errno {
	return checkWithin(friction, c.Friction.Lo, c.Friction.Hi)
}
