package governor

import (
	"iter"
	"slices"

	"guidevane/api"
)

// maxAdded is the limit of what a machine adds to a coefficient, in size.
const maxAdded = api.MaxGovernorCoef / 10

// loop is a loop that was checked.
type loop struct {
	api.GovernorLoop
}

// CheckLoop returns the error of a loop, with the index of the machine.
func CheckLoop(l api.GovernorLoop) (int, api.Errno) {
	if e := first(CheckPolynomial(l.Common), checkMost(l.Machines, api.MaxGovernorMachines)); e != api.OK {
		return 0, e
	}
	checkMachine := func(machine []int) api.Errno {
		return first(unless(len(machine) == len(l.Common), api.ErrShape), checkEach(machine, checkAdded))
	}
	if i, e := firstItem(l.Machines, checkMachine); e != api.OK {
		return i, e
	}
	return 0, checkSums(l)
}

// SumFor returns the sum for a set of machines.
func SumFor(l api.GovernorLoop, set []int) ([]int, api.Errno) {
	checked, e := loopOf(l)
	if e := first(e, checkAscending(set, checked.checkNumber)); e != api.OK {
		return nil, e
	}
	return checked.sum(set), api.OK
}

// UnstableSet returns the minimum set of machines whose sum is not stable.
func UnstableSet(l api.GovernorLoop) ([]int, api.Errno) {
	checked, e := loopOf(l)
	if e != api.OK {
		return nil, e
	}
	for set := range checked.sets() {
		if !isStable(checked.sum(set)) {
			return set, api.OK
		}
	}
	return nil, api.ErrNone
}

func loopOf(l api.GovernorLoop) (loop, api.Errno) {
	if _, e := CheckLoop(l); e != api.OK {
		return loop{}, e
	}
	return loop{l}, api.OK
}

func checkAdded(added int) api.Errno {
	return checkUpTo(added, maxAdded)
}

// checkSums returns the error of a loop some sum of which might not be a valid polynomial. All else of the loop was checked.
func checkSums(l api.GovernorLoop) api.Errno {
	least, sizes := l.Common[0], make([]int, len(l.Common))
	for i, coef := range l.Common {
		sizes[i] = sizeOf(coef)
	}
	for _, machine := range l.Machines {
		least += min(machine[0], 0)
		for i, added := range machine {
			sizes[i] += sizeOf(added)
		}
	}
	return first(unless(least > 0, api.ErrForm), unless(slices.Max(sizes) <= api.MaxGovernorCoef, api.ErrLarge))
}

func (l loop) checkNumber(machine int) api.Errno {
	return unless(within(machine, 0, len(l.Machines)-1), api.ErrMissing)
}

func (l loop) sum(set []int) []int {
	sum := slices.Clone(l.Common)
	for _, machine := range set {
		for i, added := range l.Machines[machine] {
			sum[i] += added
		}
	}
	return sum
}

// sets ranges over all sets of machines, the smaller ones first, those of one size in lexicographic order. Each set is followed, after all others of its size, by those that have one more machine behind its last one.
func (l loop) sets() iter.Seq[[]int] {
	return func(yield func(set []int) bool) {
		waiting := [][]int{nil}
		for len(waiting) > 0 {
			set := waiting[0]
			waiting = waiting[1:]
			if !yield(set) {
				return
			}
			for machine := behind(set); machine < len(l.Machines); machine++ {
				waiting = append(waiting, append(slices.Clone(set), machine))
			}
		}
	}
}

// behind returns the first machine behind the last one of a set.
func behind(set []int) int {
	if len(set) == 0 {
		return 0
	}
	return set[len(set)-1] + 1
}
