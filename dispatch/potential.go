package dispatch

import (
	"iter"
	"slices"

	"guidevane/api"
)

// lost is the potential of a cell from which no plan is possible. Whatever hours before it earn, the potentials of cells that lead to lost ones alone stay below lost/2, and whatever a plan loses, it is worth more than that.
const lost = -api.MaxDispatchValue

// choice is a mode for an hour, the volume after it, and what both are worth: the revenue, and the potential of their cell after the hour.
type choice struct{ mode, volume, worth int }

// PotentialsOf returns valid potentials whose bound is the value of the best plan.
func PotentialsOf(p api.DispatchPlant, t api.DispatchTask) ([][]int, api.Errno) {
	checked, e := taskOf(p, t)
	if e != api.OK {
		return nil, e
	}
	potentials := checked.potentials(anywhere)
	if isLost(checked.bound(potentials)) {
		return nil, api.ErrNone
	}
	return potentials, api.OK
}

// CheckBound returns the bound of valid potentials.
func CheckBound(p api.DispatchPlant, t api.DispatchTask, potentials [][]int) (int, api.Errno) {
	checked, e := taskOf(p, t)
	switch {
	case e != api.OK:
		return 0, e
	case !checked.hasShape(potentials):
		return 0, api.ErrShape
	}
	_, e = firstItem(potentials, func(numbers []int) api.Errno {
		return checkSizes(api.MaxDispatchValue, numbers...)
	})
	switch {
	case e != api.OK:
		return 0, e
	case !checked.isValid(potentials):
		return 0, api.ErrProof
	}
	return checked.bound(potentials), api.OK
}

// anywhere allows each volume before each hour.
func anywhere(hour, volume int) bool {
	return true
}

// isLost returns whether no plan is possible from a cell with such a least potential.
func isLost(potential int) bool {
	return potential < lost/2
}

// cell returns the number of a volume and a mode.
func (p plant) cell(volume, mode int) int {
	return (volume-p.Lo)*len(p.Modes) + mode
}

// cells ranges over the volumes and modes of all cells, by their numbers.
func (p plant) cells() iter.Seq2[int, int] {
	return func(yield func(volume, mode int) bool) {
		for volume := p.Lo; volume <= p.Hi; volume++ {
			for mode := range p.Modes {
				if !yield(volume, mode) {
					return
				}
			}
		}
	}
}

// bound returns the potential with which the task begins.
func (t task) bound(potentials [][]int) int {
	return potentials[0][t.cell(t.Volume, t.Mode)]
}

// least returns the least valid potential of a cell at a time, with the potentials one hour later.
func (t task) least(time, volume, mode int, later []int) int {
	if time == len(t.Hours) {
		return t.Worth * volume
	}
	return t.bestChoice(time, volume, mode, later).worth
}

// bestChoice returns the first one of the choices of an hour that are worth most, from a volume on, after an hour in the mode before.
func (t task) bestChoice(hour, volume, before int, later []int) choice {
	best := choice{worth: lost}
	for mode, after := range t.possible(hour, volume) {
		worth := t.revenue(hour, before, mode) + later[t.cell(after, mode)]
		if worth > best.worth {
			best = choice{mode, after, worth}
		}
	}
	return best
}

// potentials returns the least potentials that are valid for plans whose volumes before all hours are allowed.
func (t task) potentials(allowed func(hour, volume int) bool) [][]int {
	potentials := make([][]int, len(t.Hours)+1)
	var later []int
	for time := range slices.Backward(potentials) {
		var numbers []int
		for volume, mode := range t.cells() {
			number := lost
			if allowed(time, volume) {
				number = t.least(time, volume, mode, later)
			}
			numbers = append(numbers, number)
		}
		potentials[time], later = numbers, numbers
	}
	return potentials
}

// hasShape returns whether there is a number for each time and cell.
func (t task) hasShape(potentials [][]int) bool {
	cells := t.cell(t.Hi+1, 0)
	isWrong := func(numbers []int) bool { return len(numbers) != cells }
	return len(potentials) == len(t.Hours)+1 && !slices.ContainsFunc(potentials, isWrong)
}

// isValid returns whether potentials, none of which is below lost, are valid.
func (t task) isValid(potentials [][]int) bool {
	var later []int
	for time, numbers := range slices.Backward(potentials) {
		for volume, mode := range t.cells() {
			if numbers[t.cell(volume, mode)] < t.least(time, volume, mode, later) {
				return false
			}
		}
		later = numbers
	}
	return true
}
