package wave

import "guidevane/api"

// CheckState returns the error of a line, or that of a state of it with the index of the cell or junction.
func CheckState(x api.WaveLine, s api.WaveState) (int, api.Errno) {
	l, e := lineOf(x)
	if e != api.OK {
		return 0, e
	}
	return l.checkState(s)
}

// PressuresOf returns the pressures of all cells.
func PressuresOf(x api.WaveLine, s api.WaveState) ([]int, api.Errno) {
	return ofCells(x, s, func(l line, cell int) int { return pressure(s, cell) })
}

// FlowsOf returns the flows of all cells.
func FlowsOf(x api.WaveLine, s api.WaveState) ([]int, api.Errno) {
	return ofCells(x, s, func(l line, cell int) int { return l.admittances[cell] * (s.Forward[cell] - s.Backward[cell]) })
}

// EnergyOf returns the energy of a state.
func EnergyOf(x api.WaveLine, s api.WaveState) (int, api.Errno) {
	l, e := lineWith(x, s)
	if e != api.OK {
		return 0, e
	}
	energy := 0
	for cell, admittance := range l.admittances {
		energy += 2 * admittance * (squared(s.Forward[cell]) + squared(s.Backward[cell]))
	}
	for i, area := range l.Areas {
		energy += area * squared(s.Levels[i])
	}
	return energy, api.OK
}

// lineWith checks a line, and a state of it.
func lineWith(x api.WaveLine, s api.WaveState) (line, api.Errno) {
	l, e := lineOf(x)
	if e != api.OK {
		return line{}, e
	}
	_, e = l.checkState(s)
	return l, e
}

func (l line) checkState(s api.WaveState) (int, api.Errno) {
	if e := l.checkShape(len(s.Forward), len(s.Backward), len(s.Levels)); e != api.OK {
		return 0, e
	}
	cell, e := firstItem(l.cells(), func(i int) api.Errno { return first(checkSize(s.Forward[i]), checkSize(s.Backward[i])) })
	if e != api.OK {
		return cell, e
	}
	return firstItem(len(s.Levels), func(i int) api.Errno { return checkSize(s.Levels[i]) })
}

// ofCells checks a line and a state of it, and returns a number for each cell.
func ofCells(x api.WaveLine, s api.WaveState, numberOf func(l line, cell int) int) ([]int, api.Errno) {
	l, e := lineWith(x, s)
	if e != api.OK {
		return nil, e
	}
	numbers := make([]int, l.cells())
	for cell := range l.cells() {
		numbers[cell] = numberOf(l, cell)
	}
	return numbers, api.OK
}

func pressure(s api.WaveState, cell int) int {
	return s.Forward[cell] + s.Backward[cell]
}

func squared(n int) int {
	return n * n
}

func (l line) rest() api.WaveState {
	return api.WaveState{
		Forward:  make([]int, l.cells()),
		Backward: make([]int, l.cells()),
		Levels:   make([]int, len(l.Areas)),
	}
}

// copied returns a state in memory of its own.
func (l line) copied(s api.WaveState) api.WaveState {
	c := l.rest()
	copy(c.Forward, s.Forward)
	copy(c.Backward, s.Backward)
	copy(c.Levels, s.Levels)
	return c
}
