package governor

import "guidevane/api"

// SharesOf returns the shares of a load by droops.
func SharesOf(droops []int, load int) ([]api.Frac, api.Errno) {
	if e := first(
		unless(len(droops) > 0, api.ErrShape),
		checkMost(droops, api.MaxGovernorMachines),
		checkEach(droops, checkDroop),
		checkUpTo(load, api.MaxGovernorLoad)); e != api.OK {
		return nil, e
	}
	var shares []api.Frac
	weights, sum := weightsOf(droops)
	for _, weight := range weights {
		shares = append(shares, lowest(load*weight, sum))
	}
	if e := checkEach(shares, checkLarge); e != api.OK {
		return nil, e
	}
	return shares, api.OK
}

func checkDroop(droop int) api.Errno {
	return checkWithin(droop, 1, api.MaxGovernorDroop)
}

// weightsOf returns numbers that are proportional to the inverse of each droop, and their sum. They are at most the product of all droops, 64 * 10^6, so that a load may be multiplied by them.
func weightsOf(droops []int) ([]int, int) {
	product := 1
	for _, droop := range droops {
		product *= droop
	}
	var weights []int
	sum := 0
	for _, droop := range droops {
		weights, sum = append(weights, product/droop), sum+product/droop
	}
	return weights, sum
}

// lowest returns a fraction in lowest terms, whose Den must be above 0. Its parts may be too large for a result.
func lowest(num, den int) api.Frac {
	common := divisorOf(num, den)
	return api.Frac{Num: num / common, Den: den / common}
}

// checkLarge returns the error of a result in lowest terms.
func checkLarge(f api.Frac) api.Errno {
	return unless(within(f.Num, -api.MaxPart, api.MaxPart) && f.Den <= api.MaxPart, api.ErrLarge)
}
