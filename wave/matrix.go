package wave

import "guidevane/api"

// quarters is how many of them make a turn.
const quarters = 4

// matrix has whole parts. Those of a line are sums of products of at most 100 for each of 4 pipes, and 41 for each of 3 chambers: complex numbers of this size are exact.
type matrix [2][2]complex128

// MatrixOf returns the matrix of a line at a quarter.
func MatrixOf(x api.WaveLine, quarter int) (api.WaveMatrix, api.Errno) {
	l, e := lineAt(x, quarter)
	if e != api.OK {
		return api.WaveMatrix{}, e
	}
	m, den := l.matrix(quarter)
	return reducedMatrix(m, den), api.OK
}

// ImpedanceAt returns the impedance at the valve at a quarter.
func ImpedanceAt(x api.WaveLine, quarter int) (api.WaveRatio, api.Errno) {
	l, e := lineAt(x, quarter)
	if e != api.OK {
		return api.WaveRatio{}, e
	}
	m, _ := l.matrix(quarter)
	if m.isResonant() {
		return api.WaveRatio{}, api.ErrOpen
	}
	return reducedRatio(gaussOf(m[0][1]), gaussOf(m[1][1])), api.OK
}

// ResonancesOf returns all quarters with a resonance.
func ResonancesOf(x api.WaveLine) ([]int, api.Errno) {
	l, e := lineOf(x)
	if e != api.OK {
		return nil, e
	}
	var resonances []int
	for quarter := range quarters {
		if m, _ := l.matrix(quarter); m.isResonant() {
			resonances = append(resonances, quarter)
		}
	}
	return resonances, api.OK
}

// lineAt checks a line, and a quarter.
func lineAt(x api.WaveLine, quarter int) (line, api.Errno) {
	l, e := lineOf(x)
	return l, first(e, checkQuarter(quarter))
}

func checkQuarter(quarter int) api.Errno {
	return checkWithin(quarter, 0, quarters-1)
}

// turn returns i to a power, which may be negative.
func turn(power int) complex128 {
	turns := [quarters]complex128{1, 1i, -1, -1i}
	return turns[(power%quarters+quarters)%quarters]
}

func number(n int) complex128 {
	return complex(float64(n), 0)
}

func gaussOf(z complex128) api.Gauss {
	return api.Gauss{Re: int(real(z)), Im: int(imag(z))}
}

// matrix returns numerators and a common denominator, which are not reduced.
func (l line) matrix(quarter int) (matrix, int) {
	m, den := matrix{{1, 0}, {0, 1}}, 1
	for i, p := range l.Pipes {
		if i > 0 {
			m = chamberMatrix(l.Areas[i-1], quarter).times(m)
		}
		m = pipeMatrix(p, quarter).times(m)
		den *= p.Admittance
	}
	return m, den
}

// pipeMatrix returns the matrix of a pipe, multiplied by its admittance, so that it is whole.
func pipeMatrix(p api.WavePipe, quarter int) matrix {
	y, angle := number(p.Admittance), turn(quarter*p.Cells)
	c, s := complex(real(angle), 0), complex(imag(angle), 0)
	return matrix{{c * y, -1i * s}, {-1i * s * y * y, c * y}}
}

func chamberMatrix(area, quarter int) matrix {
	return matrix{{1, 0}, {-stored(area, quarter), 1}}
}

// stored returns the flow into a chamber for each pressure at its junction.
func stored(area, quarter int) complex128 {
	return number(area) * (1 - turn(-quarter))
}

func (m matrix) times(n matrix) matrix {
	var product matrix
	for i := range m {
		for k := range n {
			product[i][k] = m[i][0]*n[0][k] + m[i][1]*n[1][k]
		}
	}
	return product
}

func (m matrix) isResonant() bool {
	return m[1][1] == 0
}

func reducedMatrix(m matrix, den int) api.WaveMatrix {
	a, b, c, d := gaussOf(m[0][0]), gaussOf(m[0][1]), gaussOf(m[1][0]), gaussOf(m[1][1])
	n := divisorOf(den, a.Re, a.Im, b.Re, b.Im, c.Re, c.Im, d.Re, d.Im)
	return api.WaveMatrix{A: divided(a, n), B: divided(b, n), C: divided(c, n), D: divided(d, n), Den: den / n}
}

func reducedRatio(num, den api.Gauss) api.WaveRatio {
	if num.Re == 0 && num.Im == 0 {
		return api.WaveRatio{Den: api.Gauss{Re: 1}}
	}
	n := divisorOf(num.Re, num.Im, den.Re, den.Im)
	if den.Re < 0 || den.Re == 0 && den.Im < 0 {
		n = -n
	}
	return api.WaveRatio{Num: divided(num, n), Den: divided(den, n)}
}

// divisorOf returns the greatest number that divides all of the numbers, of which one is not 0.
func divisorOf(numbers ...int) int {
	divisor := 0
	for _, n := range numbers {
		for n != 0 {
			divisor, n = n, divisor%n
		}
	}
	return max(divisor, -divisor)
}

func divided(z api.Gauss, n int) api.Gauss {
	return api.Gauss{Re: z.Re / n, Im: z.Im / n}
}
