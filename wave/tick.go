package wave

import "guidevane/api"

// Stepped returns the state after a tick.
func Stepped(x api.WaveLine, s api.WaveState, closed int) (api.WaveState, api.Errno) {
	l, e := lineWith(x, s)
	if e := first(e, checkClosing(closed)); e != api.OK {
		return api.WaveState{}, e
	}
	after := l.copied(s)
	l.move(after, closed)
	return after, api.OK
}

// RunOf returns the state after so many ticks as there are closings.
func RunOf(x api.WaveLine, s api.WaveState, closed []int) (api.WaveState, api.Errno) {
	l, e := lineWith(x, s)
	if e := first(e, checkClosings(closed)); e != api.OK {
		return api.WaveState{}, e
	}
	after := l.copied(s)
	for _, c := range closed {
		l.move(after, c)
	}
	return after, api.OK
}

func checkClosing(closed int) api.Errno {
	return checkWithin(closed, -api.MaxWaveClosed, api.MaxWaveClosed)
}

func checkClosings(closed []int) api.Errno {
	if len(closed) > api.MaxWaveTicks {
		return api.ErrLarge
	}
	_, e := firstItem(len(closed), func(i int) api.Errno { return checkClosing(closed[i]) })
	return e
}

// move makes of a state the one after a tick, and returns the pressure at the valve.
func (l line) move(s api.WaveState, closing int) int {
	last := l.cells() - 1
	atLake, atValve := s.Backward[0], s.Forward[last]
	copy(s.Forward[1:], s.Forward)
	copy(s.Backward, s.Backward[1:])
	s.Forward[0] = -atLake
	s.Backward[last] = atValve + closing
	for i := range l.Areas {
		l.meet(s, i)
	}
	return 2*atValve + closing
}

// meet turns the waves that meet at a junction back. They have been moved on already, as if nothing were there: each of them is in the cell behind the junction.
func (l line) meet(s api.WaveState, junction int) {
	after := l.firsts[junction+1]
	before := after - 1
	y, w, area := l.admittances[before], l.admittances[after], l.Areas[junction]
	a, c := s.Forward[after], s.Backward[before]
	p := (2*y*a + 2*w*c + area*s.Levels[junction]) / (y + w + area)
	s.Backward[before], s.Forward[after], s.Levels[junction] = p-a, p-c, p
}
