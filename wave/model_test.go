package wave_test

import (
	"math/big"
	"math/rand/v2"
	"slices"
	"testing"

	"guidevane/api"
	"guidevane/wave"
)

// This file computes what the chapter defines once more: pipe by pipe, law by law, and with fractions of any size. Its lines and states are made at random, but the same ones in every run.

func random(seed uint64) *rand.Rand {
	return rand.New(rand.NewPCG(seed, 3))
}

func between(r *rand.Rand, lo, hi int) int {
	return lo + r.IntN(hi-lo+1)
}

func parsed(t *testing.T, s string) api.WaveLine {
	t.Helper()
	x, e := wave.ParseLine(s)
	if e != api.OK {
		t.Fatal(s, e)
	}
	return x
}

func cellsOf(x api.WaveLine) int {
	n := 0
	for _, p := range x.Pipes {
		n += p.Cells
	}
	return n
}

func randomLine(r *rand.Rand, admittance, area int) api.WaveLine {
	var x api.WaveLine
	for i := range between(r, 1, api.MaxWavePipes) {
		if i > 0 {
			x.Areas = append(x.Areas, max(0, between(r, -area, area)))
		}
		x.Pipes = append(x.Pipes, api.WavePipe{Cells: between(r, 1, api.MaxWaveCells), Admittance: between(r, 1, admittance)})
	}
	return x
}

func randomPlain(r *rand.Rand) api.WaveLine {
	x := randomLine(r, 1, 0)
	admittance := between(r, 1, api.MaxWaveAdmittance)
	for i := range x.Pipes {
		x.Pipes[i].Admittance = admittance
	}
	return x
}

func randomNumbers(r *rand.Rand, n, lo, hi int) []int {
	l := make([]int, n)
	for i := range l {
		l[i] = between(r, lo, hi)
	}
	return l
}

func randomState(r *rand.Rand, x api.WaveLine, size int) api.WaveState {
	n := cellsOf(x)
	return api.WaveState{Forward: randomNumbers(r, n, -size, size), Backward: randomNumbers(r, n, -size, size), Levels: randomNumbers(r, len(x.Areas), -size, size)}
}

func randomLaw(r *rand.Rand, numbers, closed int) []int {
	l := randomNumbers(r, numbers, 0, closed)
	slices.Sort(l)
	return l
}

func restOf(x api.WaveLine) api.WaveState {
	n := cellsOf(x)
	return api.WaveState{Forward: make([]int, n), Backward: make([]int, n), Levels: make([]int, len(x.Areas))}
}

func copied(s api.WaveState) api.WaveState {
	return api.WaveState{Forward: slices.Clone(s.Forward), Backward: slices.Clone(s.Backward), Levels: slices.Clone(s.Levels)}
}

func sameState(a, b api.WaveState) bool {
	return slices.Equal(a.Forward, b.Forward) && slices.Equal(a.Backward, b.Backward) && slices.Equal(a.Levels, b.Levels)
}

func isNothing(s api.WaveState) bool {
	return len(s.Forward)+len(s.Backward)+len(s.Levels) == 0
}

// towardsZero divides by a positive number.
func towardsZero(num, den int) int {
	if num < 0 {
		return -(-num / den)
	}
	return num / den
}

// pipesOf divides the waves of all cells into those of each pipe.
func pipesOf(x api.WaveLine, waves []int) [][]int {
	var pipes [][]int
	for _, p := range x.Pipes {
		pipes = append(pipes, waves[:p.Cells])
		waves = waves[p.Cells:]
	}
	return pipes
}

// modelTick returns the state after a tick, and the pressure at the valve at it.
func modelTick(x api.WaveLine, s api.WaveState, closed int) (api.WaveState, int) {
	forward, backward := pipesOf(x, s.Forward), pipesOf(x, s.Backward)
	next := api.WaveState{}
	enter := -backward[0][0]
	for i, p := range x.Pipes {
		a := forward[i][p.Cells-1]
		back, on := a+closed, 0
		if i < len(x.Areas) {
			y, w, area, c := p.Admittance, x.Pipes[i+1].Admittance, x.Areas[i], backward[i+1][0]
			level := towardsZero(2*y*a+2*w*c+area*s.Levels[i], y+w+area)
			back, on = level-a, level-c
			next.Levels = append(next.Levels, level)
		}
		next.Forward = append(append(next.Forward, enter), forward[i][:p.Cells-1]...)
		next.Backward = append(append(next.Backward, backward[i][1:]...), back)
		enter = on
	}
	return next, 2*s.Forward[len(s.Forward)-1] + closed
}

// modelRun returns the states after the ticks of the run of a law, and the pressures at the valve.
func modelRun(x api.WaveLine, law []int, ticks int) ([]api.WaveState, []int) {
	s := restOf(x)
	var states []api.WaveState
	var pressures []int
	for tick := range ticks {
		next, pressure := modelTick(x, s, modelClosing(law, tick))
		s = next
		states, pressures = append(states, next), append(pressures, pressure)
	}
	return states, pressures
}

func modelClosing(law []int, tick int) int {
	closing := 0
	for i, n := range law {
		if i <= tick {
			closing = n
		}
	}
	return closing
}

// modelExtreme returns the peak, or with the sign -1 the low, of a run.
func modelExtreme(x api.WaveLine, law []int, ticks, sign int) api.WavePeak {
	states, _ := modelRun(x, law, ticks)
	best := api.WavePeak{Pressure: states[0].Forward[0] + states[0].Backward[0]}
	for tick, s := range states {
		for cell := range s.Forward {
			if p := s.Forward[cell] + s.Backward[cell]; sign*p > sign*best.Pressure {
				best = api.WavePeak{Pressure: p, Tick: tick, Cell: cell}
			}
		}
	}
	return best
}

// modelBeyond returns the first tick at which a law does not keep the limits, or -1.
func modelBeyond(x api.WaveLine, law []int, t api.WaveTask) int {
	_, pressures := modelRun(x, law, t.Ticks)
	return slices.IndexFunc(pressures, func(p int) bool { return p < t.Limits.Lo || p > t.Limits.Hi })
}

// modelLaws returns all laws with so many numbers up to one that ends with it, in lexicographic order.
func modelLaws(numbers, closed int) [][]int {
	if numbers == 1 {
		return [][]int{{closed}}
	}
	var laws [][]int
	for n := range closed + 1 {
		for _, rest := range modelLaws(numbers-1, closed) {
			if n <= rest[0] {
				laws = append(laws, append([]int{n}, rest...))
			}
		}
	}
	return laws
}

func modelFastest(x api.WaveLine, t api.WaveTask) []int {
	for numbers := 1; numbers <= t.Most; numbers++ {
		for _, law := range modelLaws(numbers, t.Closed) {
			if modelBeyond(x, law, t) < 0 {
				return law
			}
		}
	}
	return nil
}

// exact is a complex number whose parts are fractions of any size.
type exact struct{ re, im *big.Rat }

func exactOf(re, im int) exact {
	return exact{big.NewRat(int64(re), 1), big.NewRat(int64(im), 1)}
}

func rat() *big.Rat { return new(big.Rat) }

func (a exact) plus(b exact) exact {
	return exact{rat().Add(a.re, b.re), rat().Add(a.im, b.im)}
}

func (a exact) times(b exact) exact {
	return exact{
		rat().Sub(rat().Mul(a.re, b.re), rat().Mul(a.im, b.im)),
		rat().Add(rat().Mul(a.re, b.im), rat().Mul(a.im, b.re)),
	}
}

func (a exact) negative() exact { return a.times(exactOf(-1, 0)) }

func (a exact) over(n int) exact {
	part := big.NewRat(1, int64(n))
	return exact{rat().Mul(a.re, part), rat().Mul(a.im, part)}
}

func (a exact) isZero() bool { return a.re.Sign() == 0 && a.im.Sign() == 0 }

// whole returns a number with whole parts.
func (a exact) whole() (api.Gauss, bool) {
	return api.Gauss{Re: int(a.re.Num().Int64()), Im: int(a.im.Num().Int64())}, a.re.IsInt() && a.im.IsInt()
}

// power returns i to a power, by so many multiplications.
func power(n int) exact {
	z := exactOf(1, 0)
	for range n {
		z = z.times(exactOf(0, 1))
	}
	for range -n {
		z = z.times(exactOf(0, -1))
	}
	return z
}

// modelPipe returns the amplitudes at the end of a pipe.
func modelPipe(p api.WavePipe, quarter int, pressure, flow exact) (exact, exact) {
	turned := power(quarter * p.Cells)
	c, s := exact{turned.re, rat()}, exact{turned.im, rat()}
	is := exactOf(0, -1).times(s)
	return c.times(pressure).plus(is.times(flow).over(p.Admittance)), c.times(flow).plus(is.times(pressure).times(exactOf(p.Admittance, 0)))
}

// modelAmplitudes returns the amplitudes at the beginnings of all pipes, and those at the valve.
func modelAmplitudes(x api.WaveLine, quarter int, pressure, flow exact) [][2]exact {
	l := [][2]exact{{pressure, flow}}
	for i, p := range x.Pipes {
		pressure, flow = modelPipe(p, quarter, pressure, flow)
		if i < len(x.Areas) {
			flow = flow.plus(exactOf(1, 0).plus(power(-quarter).negative()).times(exactOf(-x.Areas[i], 0)).times(pressure))
		}
		l = append(l, [2]exact{pressure, flow})
	}
	return l
}

// modelMatrix returns A, B, C and D.
func modelMatrix(x api.WaveLine, quarter int) [4]exact {
	n := len(x.Pipes)
	first := modelAmplitudes(x, quarter, exactOf(1, 0), exactOf(0, 0))[n]
	second := modelAmplitudes(x, quarter, exactOf(0, 0), exactOf(1, 0))[n]
	return [4]exact{first[0], second[0], first[1], second[1]}
}

func common(numbers ...int) int {
	divisor := new(big.Int)
	for _, n := range numbers {
		divisor.GCD(nil, nil, divisor, big.NewInt(int64(max(n, -n))))
	}
	return int(divisor.Int64())
}

// reduced returns the smallest number by which all become whole, and the products with it.
func reduced(l ...exact) (int, []api.Gauss) {
	den := 1
	for _, z := range l {
		for _, part := range []*big.Rat{z.re, z.im} {
			n := int(part.Denom().Int64())
			den *= n / common(den, n)
		}
	}
	var numerators []api.Gauss
	for _, z := range l {
		n, _ := z.times(exactOf(den, 0)).whole()
		numerators = append(numerators, n)
	}
	return den, numerators
}

// modelImpedance makes the first part of the denominator that is not 0 positive.
func modelImpedance(x api.WaveLine, quarter int) (api.WaveRatio, api.Errno) {
	m := modelMatrix(x, quarter)
	if m[3].isZero() {
		return api.WaveRatio{}, api.ErrOpen
	}
	if m[1].isZero() {
		return api.WaveRatio{Den: api.Gauss{Re: 1}}, api.OK
	}
	_, l := reduced(m[1], m[3])
	b, d := l[0], l[1]
	n := common(b.Re, b.Im, d.Re, d.Im)
	if d.Re < 0 || d.Re == 0 && d.Im < 0 {
		n = -n
	}
	return api.WaveRatio{Num: api.Gauss{Re: b.Re / n, Im: b.Im / n}, Den: api.Gauss{Re: d.Re / n, Im: d.Im / n}}, api.OK
}

// modelSteady returns the steady oscillation, and whether all amplitudes are whole.
func modelSteady(x api.WaveLine, quarter int, g api.Gauss) (api.WaveSteady, bool) {
	s, all := api.WaveSteady{Quarter: quarter}, true
	take := func(z exact) api.Gauss {
		n, whole := z.whole()
		all = all && whole
		return n
	}
	flow := exactOf(2*g.Re, 2*g.Im)
	for _, p := range x.Pipes {
		flow = flow.times(exactOf(p.Admittance, 0))
	}
	for i, begin := range modelAmplitudes(x, quarter, exactOf(0, 0), flow) {
		if i == len(x.Pipes) {
			continue
		}
		if i > 0 {
			s.Levels = append(s.Levels, take(begin[0]))
		}
		p := x.Pipes[i]
		forward := begin[0].plus(begin[1].over(p.Admittance)).over(2)
		backward := begin[0].plus(begin[1].over(-p.Admittance)).over(2)
		for k := range p.Cells {
			s.Forward = append(s.Forward, take(forward.times(power(-quarter*k))))
			s.Backward = append(s.Backward, take(backward.times(power(quarter*(k+1)))))
		}
		leaving := forward.times(power(-quarter * (p.Cells - 1))).times(power(-quarter))
		entering := backward.times(power(quarter * p.Cells))
		s.Closed = take(entering.plus(leaving.negative()))
	}
	return s, all
}

// modelAt returns the real part of an amplitude at a tick.
func modelAt(z api.Gauss, quarter, tick int) int {
	for range quarter * (tick % 4) {
		z = api.Gauss{Re: -z.Im, Im: z.Re}
	}
	return z.Re
}

func modelStateAt(s api.WaveSteady, tick int) (api.WaveState, int) {
	parts := func(l []api.Gauss) []int {
		var parts []int
		for _, z := range l {
			parts = append(parts, modelAt(z, s.Quarter, tick))
		}
		return parts
	}
	return api.WaveState{Forward: parts(s.Forward), Backward: parts(s.Backward), Levels: parts(s.Levels)}, modelAt(s.Closed, s.Quarter, tick)
}

// modelEnergy returns the energy of a state whose numbers may be of any size.
func modelEnergy(x api.WaveLine, s api.WaveState) *big.Int {
	sum := new(big.Int)
	add := func(factor, n int) {
		square := new(big.Int).Mul(big.NewInt(int64(n)), big.NewInt(int64(n)))
		sum.Add(sum, square.Mul(square, big.NewInt(int64(factor))))
	}
	forward, backward := pipesOf(x, s.Forward), pipesOf(x, s.Backward)
	for i, p := range x.Pipes {
		for k := range p.Cells {
			add(2*p.Admittance, forward[i][k])
			add(2*p.Admittance, backward[i][k])
		}
	}
	for i, area := range x.Areas {
		add(area, s.Levels[i])
	}
	return sum
}
