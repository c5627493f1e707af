package wave

import "guidevane/api"

// SteadyOf returns the steady oscillation of a line at a quarter.
func SteadyOf(x api.WaveLine, quarter int, flow api.Gauss) (api.WaveSteady, api.Errno) {
	l, e := lineAt(x, quarter)
	if e := first(e, checkParts(flow, api.MaxWaveFlow)); e != api.OK {
		return api.WaveSteady{}, e
	}
	return l.steady(quarter, complexOf(flow)), api.OK
}

// StateAt returns the state at a tick of an oscillation, and the closing.
func StateAt(x api.WaveLine, s api.WaveSteady, tick int) (api.WaveState, int, api.Errno) {
	l, e := lineAt(x, s.Quarter)
	e = first(e,
		l.checkShape(len(s.Forward), len(s.Backward), len(s.Levels)),
		checkAmplitudes(s.Forward),
		checkAmplitudes(s.Backward),
		checkAmplitudes(s.Levels),
		checkParts(s.Closed, api.MaxWaveSize),
		checkWithin(tick, 0, api.MaxTick))
	if e != api.OK {
		return api.WaveState{}, 0, e
	}
	now := turn(s.Quarter * tick)
	at := api.WaveState{Forward: realParts(s.Forward, now), Backward: realParts(s.Backward, now), Levels: realParts(s.Levels, now)}
	return at, realPart(s.Closed, now), api.OK
}

// checkParts returns the error of a complex number of which no part may be greater in size than most.
func checkParts(z api.Gauss, most int) api.Errno {
	return first(checkWithin(z.Re, -most, most), checkWithin(z.Im, -most, most))
}

func checkAmplitudes(amplitudes []api.Gauss) api.Errno {
	_, e := firstItem(len(amplitudes), func(i int) api.Errno { return checkParts(amplitudes[i], api.MaxWaveSize) })
	return e
}

func complexOf(z api.Gauss) complex128 {
	return complex(float64(z.Re), float64(z.Im))
}

// steady follows both amplitudes from the lake on, where the flow is so great that it can be divided by 2 and by all admittances.
func (l line) steady(quarter int, g complex128) api.WaveSteady {
	s := api.WaveSteady{Quarter: quarter}
	pressure, flow := number(0), 2*g
	for _, p := range l.Pipes {
		flow *= number(p.Admittance)
	}
	for i, p := range l.Pipes {
		if i > 0 {
			s.Levels = append(s.Levels, gaussOf(pressure))
			flow -= stored(l.Areas[i-1], quarter) * pressure
		}
		y := number(p.Admittance)
		forward, backward := (pressure+flow/y)/2, (pressure-flow/y)/2
		for k := range p.Cells {
			s.Forward = append(s.Forward, gaussOf(forward*turn(-quarter*k)))
			s.Backward = append(s.Backward, gaussOf(backward*turn(quarter*(k+1))))
		}
		leaving, entering := forward*turn(-quarter*p.Cells), backward*turn(quarter*p.Cells)
		pressure, flow = leaving+entering, y*(leaving-entering)
		s.Closed = gaussOf(entering - leaving)
	}
	return s
}

func realParts(amplitudes []api.Gauss, now complex128) []int {
	parts := make([]int, len(amplitudes))
	for i, z := range amplitudes {
		parts[i] = realPart(z, now)
	}
	return parts
}

func realPart(z api.Gauss, now complex128) int {
	return int(real(complexOf(z) * now))
}
