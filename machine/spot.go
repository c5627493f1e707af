package machine

import "guidevane/api"

// EfficiencyOf returns the power of a spot, divided by its head and its flow.
func EfficiencyOf(s api.MachineSpot) (api.Frac, api.Errno) {
	if e := first(checkSpot(s), unless(s.Head.Num != 0 && s.Flow.Num != 0, api.ErrZero)); e != api.OK {
		return api.Frac{}, e
	}
	return fraction(s.Power.Num*s.Head.Den*s.Flow.Den, s.Power.Den*s.Head.Num*s.Flow.Num)
}

// QuadrantOf returns in which quadrant of flow and power a spot lies.
func QuadrantOf(s api.MachineSpot) (int, api.Errno) {
	if e := checkSpot(s); e != api.OK {
		return 0, e
	}
	flow, power := s.Flow.Num, s.Power.Num
	switch {
	case flow == 0 || power == 0:
		return api.MachineNone, api.OK
	case flow > 0 && power > 0:
		return api.MachineTurbine, api.OK
	case flow < 0 && power < 0:
		return api.MachinePump, api.OK
	}
	return api.MachineBrake, api.OK
}

// MarginOf returns the head below a machine, less what a spot's flow takes of it.
func MarginOf(s api.MachineSpot, x api.MachineTail) (api.Frac, api.Errno) {
	if e := first(checkSpot(s), checkWithin(x.Tail, 0, api.MaxMachineSize), checkWithin(x.Factor, 0, api.MaxMachineSize)); e != api.OK {
		return api.Frac{}, e
	}
	den := api.MachineParts * s.Flow.Den
	return fraction(x.Tail*den-x.Factor*max(s.Flow.Num, -s.Flow.Num), den)
}

func checkSpot(s api.MachineSpot) api.Errno {
	return first(checkNumber(s.Head), checkNumber(s.Flow), checkNumber(s.Power))
}

// checkNumber returns the error of the head, the flow or the power of a spot.
func checkNumber(f api.Frac) api.Errno {
	return first(checkForm(f), checkUpTo(f.Num, api.MaxMachinePower), checkUpTo(f.Den, api.MaxMachinePower))
}
