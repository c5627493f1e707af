package dispatch

import "guidevane/api"

// Followed returns the powers of all seconds that follow wanted ones with a ramp.
func Followed(start, ramp int, wanted []int) ([]int, api.Errno) {
	if e := first(
		checkSizes(api.MaxDispatchPower, start),
		checkWithin(0, api.MaxDispatchPower, ramp),
		checkPowers(wanted)); e != api.OK {
		return nil, e
	}
	var powers []int
	power := start
	for _, w := range wanted {
		power = min(max(w, power-ramp), power+ramp)
		powers = append(powers, power)
	}
	return powers, api.OK
}

// SettledOf returns the settlement of measured powers against wanted ones.
func SettledOf(wanted, measured []int) (api.DispatchSettled, api.Errno) {
	if e := first(
		checkPowers(wanted),
		checkPowers(measured),
		unless(len(wanted) == len(measured), api.ErrShape)); e != api.OK {
		return api.DispatchSettled{}, e
	}
	var s api.DispatchSettled
	for i, w := range wanted {
		m := measured[i]
		energy := energyOf(w, m)
		s.Energy += energy
		s.Missed += size(w) - energy
		s.Over += size(m) - energy
	}
	return s, api.OK
}

func checkPowers(powers []int) api.Errno {
	return first(
		unless(len(powers) <= api.MaxDispatchSeconds, api.ErrLarge),
		checkSizes(api.MaxDispatchPower, powers...))
}

// energyOf returns the energy of a second: of powers with different signs, the smaller one is below 0 whichever way both are turned.
func energyOf(wanted, measured int) int {
	return max(0, min(wanted, measured), min(-wanted, -measured))
}

func size(power int) int {
	return max(power, -power)
}
