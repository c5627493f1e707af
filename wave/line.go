package wave

import (
	"slices"

	"guidevane/api"
)

// line is a line that was checked.
type line struct {
	api.WaveLine
	admittances []int // for each cell, that of its pipe
	firsts      []int // for each pipe, its first cell
}

// CheckLine returns the error of a line, and the index of its pipe or junction.
func CheckLine(x api.WaveLine) (int, api.Errno) {
	e := first(
		unless(len(x.Pipes) > 0, api.ErrShape),
		unless(len(x.Pipes) <= api.MaxWavePipes, api.ErrLarge),
		unless(len(x.Areas) == len(x.Pipes)-1, api.ErrShape))
	if e != api.OK {
		return 0, e
	}
	i, e := firstItem(len(x.Pipes), func(i int) api.Errno {
		return first(
			checkWithin(x.Pipes[i].Cells, 1, api.MaxWaveCells),
			checkWithin(x.Pipes[i].Admittance, 1, api.MaxWaveAdmittance))
	})
	if e != api.OK {
		return i, e
	}
	return firstItem(len(x.Areas), func(i int) api.Errno { return checkWithin(x.Areas[i], 0, api.MaxWaveArea) })
}

// IsPlain returns whether a line is plain.
func IsPlain(x api.WaveLine) (bool, api.Errno) {
	if _, e := lineOf(x); e != api.OK {
		return false, e
	}
	admittance := x.Pipes[0].Admittance
	other := slices.ContainsFunc(x.Pipes, func(p api.WavePipe) bool { return p.Admittance != admittance })
	chamber := slices.ContainsFunc(x.Areas, func(area int) bool { return area != 0 })
	return !other && !chamber, api.OK
}

// lineOf checks a line.
func lineOf(x api.WaveLine) (line, api.Errno) {
	if _, e := CheckLine(x); e != api.OK {
		return line{}, e
	}
	l := line{WaveLine: x}
	for _, p := range x.Pipes {
		l.firsts = append(l.firsts, l.cells())
		l.admittances = append(l.admittances, slices.Repeat([]int{p.Admittance}, p.Cells)...)
	}
	return l, api.OK
}

func (l line) cells() int {
	return len(l.admittances)
}

// checkShape returns the error of something that has so many parts for the waves towards the valve, for those towards the lake, and for the junctions.
func (l line) checkShape(forward, backward, levels int) api.Errno {
	return unless(forward == l.cells() && backward == l.cells() && levels == len(l.Areas), api.ErrShape)
}
