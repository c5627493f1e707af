package lake_test

import (
	"math/big"
	"math/rand/v2"

	"guidevane/api"
)

// This file computes what the chapter defines once more, with fractions of any size and without shortcuts. Its types are made at random, but the same ones in every run.

func random(seed uint64) *rand.Rand {
	return rand.New(rand.NewPCG(seed, 1))
}

func knots(l ...int) api.LakeTable {
	var t api.LakeTable
	for i := 0; i < len(l); i += 2 {
		t.Knots = append(t.Knots, api.LakeKnot{Level: l[i], Volume: l[i+1]})
	}
	return t
}

// example is the table of the chapter's examples.
func example() api.LakeTable {
	return knots(0, 0, 100, 1000, 200, 3000)
}

func twins(rate int) api.LakePair {
	return api.LakePair{Upper: example(), Lower: example(), Rate: rate}
}

func randomTable(r *rand.Rand, most int) api.LakeTable {
	t := knots(r.IntN(30), r.IntN(30))
	levels, volumes := 1, 1
	for range 1 + r.IntN(most-1) {
		last := t.Knots[len(t.Knots)-1]
		next := 1 + r.IntN(12)
		volumes, levels = (volumes*next+levels-1)/levels+r.IntN(3)*r.IntN(20), next
		t.Knots = append(t.Knots, api.LakeKnot{Level: last.Level + levels, Volume: last.Volume + volumes})
	}
	return t
}

// wideTable has parts with large denominators, that have little in common.
func wideTable() api.LakeTable {
	return knots(1, 7, 499979, 333333331, api.MaxLakeLevel, api.MaxLakeVolume)
}

func randomPair(r *rand.Rand, most, rate int) api.LakePair {
	return api.LakePair{Upper: randomTable(r, most), Lower: randomTable(r, most), Rate: r.IntN(rate + 1)}
}

func between(r *rand.Rand, lo, hi int) int {
	return lo + r.IntN(hi-lo+1)
}

func ends(t api.LakeTable) (api.LakeKnot, api.LakeKnot) {
	return t.Knots[0], t.Knots[len(t.Knots)-1]
}

func randomState(r *rand.Rand, p api.LakePair) api.LakeState {
	volume := func(t api.LakeTable) int {
		bottom, top := ends(t)
		return between(r, bottom.Volume, top.Volume)
	}
	return api.LakeState{Upper: volume(p.Upper), Lower: volume(p.Lower)}
}

func randomFlows(r *rand.Rand, n, most int) []api.LakeFlows {
	var l []api.LakeFlows
	for range n {
		l = append(l, api.LakeFlows{InUpper: r.IntN(most/4 + 1), InLower: r.IntN(most/4 + 1), Exchange: between(r, -most, most)})
	}
	return l
}

// randomLimit is wide enough that most steps of the given size, in levels, hold.
func randomLimit(r *rand.Rand, t api.LakeTable, size int) api.LakeLimit {
	bottom, top := ends(t)
	part := (top.Level - bottom.Level) / 3
	return api.LakeLimit{
		Levels: api.Range{Lo: between(r, bottom.Level, bottom.Level+part), Hi: between(r, top.Level-part, top.Level)},
		Fall:   r.IntN(size + 1), Rise: r.IntN(size + 1), Window: between(r, 1, 4),
	}
}

func fraction(num, den int) *big.Rat { return big.NewRat(int64(num), int64(den)) }

func floor(x *big.Rat) int {
	return int(new(big.Int).Div(x.Num(), x.Denom()).Int64()) // Div rounds down, since denominators are positive
}

func ceil(x *big.Rat) int {
	return -floor(new(big.Rat).Neg(x))
}

func onLine(x, x0, x1, y0, y1 int) *big.Rat {
	y := new(big.Rat).Mul(fraction(x-x0, 1), fraction(y1-y0, x1-x0))
	return y.Add(y, fraction(y0, 1))
}

func modelVolume(t api.LakeTable, level int) *big.Rat {
	for i := 1; ; i++ {
		a, b := t.Knots[i-1], t.Knots[i]
		if level <= b.Level {
			return onLine(level, a.Level, b.Level, a.Volume, b.Volume)
		}
	}
}

func modelLevel(t api.LakeTable, volume int) *big.Rat {
	for i := 1; ; i++ {
		a, b := t.Knots[i-1], t.Knots[i]
		if volume <= b.Volume {
			return onLine(volume, a.Volume, b.Volume, a.Level, b.Level)
		}
	}
}

func modelArea(t api.LakeTable, volume int) *big.Rat {
	for i := 1; ; i++ {
		a, b := t.Knots[i-1], t.Knots[i]
		if volume <= b.Volume {
			return fraction(b.Volume-a.Volume, b.Level-a.Level)
		}
	}
}

func enclosed(x *big.Rat) api.Range {
	return api.Range{Lo: floor(x), Hi: ceil(x)}
}

// modelLake returns the volume of a lake after a step, what evaporated and what was spilled, and whether it is possible.
func modelLake(t api.LakeTable, rate, volume, in int) (int, int, int, bool) {
	bottom, top := ends(t)
	evaporated := floor(new(big.Rat).Mul(modelArea(t, volume), fraction(rate, 1000)))
	if evaporated > volume-bottom.Volume {
		evaporated = volume - bottom.Volume
	}
	volume += in - evaporated
	if volume < bottom.Volume {
		return 0, 0, 0, false
	}
	spilled := 0
	if volume > top.Volume {
		spilled, volume = volume-top.Volume, top.Volume
	}
	return volume, evaporated, spilled, true
}

func modelStep(p api.LakePair, s api.LakeState, x api.LakeFlows) (api.LakeState, api.LakeLoss, api.Errno) {
	u, ue, us, uok := modelLake(p.Upper, p.Rate, s.Upper, x.InUpper+x.Exchange)
	l, le, ls, lok := modelLake(p.Lower, p.Rate, s.Lower, x.InLower-x.Exchange)
	if !uok || !lok {
		return api.LakeState{}, api.LakeLoss{}, api.ErrBreak
	}
	return api.LakeState{Upper: u, Lower: l}, api.LakeLoss{Evaporated: ue + le, Spilled: us + ls}, api.OK
}

// modelRun returns the states of a run up to the first step that is impossible, from the tick 0 on, and whether there is such a step.
func modelRun(p api.LakePair, s api.LakeState, l []api.LakeFlows) ([]api.LakeState, api.LakeLoss, api.Errno) {
	states := []api.LakeState{s}
	var loss api.LakeLoss
	for _, x := range l {
		next, lost, e := modelStep(p, s, x)
		if e != api.OK {
			return states, loss, e
		}
		s = next
		states = append(states, s)
		loss.Evaporated += lost.Evaporated
		loss.Spilled += lost.Spilled
	}
	return states, loss, api.OK
}

// modelBroken tells whether a lake violates a limit of a kind at a tick, its levels being known from the tick 0 on.
func modelBroken(l api.LakeLimit, levels []*big.Rat, tick, kind int) bool {
	before := tick - l.Window
	if before < 0 {
		before = 0
	}
	rise := new(big.Rat).Sub(levels[tick], levels[before])
	switch kind {
	case api.LakeLow:
		return levels[tick].Cmp(fraction(l.Levels.Lo, 1)) < 0
	case api.LakeHigh:
		return levels[tick].Cmp(fraction(l.Levels.Hi, 1)) > 0
	case api.LakeFalls:
		return new(big.Rat).Neg(rise).Cmp(fraction(l.Fall, 1)) > 0
	}
	return rise.Cmp(fraction(l.Rise, 1)) > 0
}

func modelViolation(p api.LakePair, s api.LakeState, x api.LakeTask) (api.LakeViolation, api.Errno) {
	states, _, e := modelRun(p, s, x.Flows)
	var levels [2][]*big.Rat
	for tick, s := range states {
		levels[0] = append(levels[0], modelLevel(p.Upper, s.Upper))
		levels[1] = append(levels[1], modelLevel(p.Lower, s.Lower))
		for i, limit := range []api.LakeLimit{x.Limits.Upper, x.Limits.Lower} {
			for kind := api.LakeLow; kind <= api.LakeRises; kind++ {
				if tick > 0 && modelBroken(limit, levels[i], tick, kind) {
					return api.LakeViolation{Tick: tick, Lake: i, Kind: kind}, api.OK
				}
			}
		}
	}
	if e == api.OK {
		e = api.ErrNone
	}
	return api.LakeViolation{}, e
}

// modelPermitted returns for how many ticks the last flows are permitted.
func modelPermitted(p api.LakePair, s api.LakeState, x api.LakeTask) int {
	var l []api.LakeFlows
	for range api.MaxLakeTicks {
		l = append(l, x.Flows[len(x.Flows)-1])
	}
	if v, e := modelViolation(p, s, api.LakeTask{Limits: x.Limits, Flows: l}); e == api.OK {
		return v.Tick - 1
	}
	states, _, _ := modelRun(p, s, l)
	return len(states) - 1
}

// modelPermits tells whether a reading permits a volume at the tick 0.
func modelPermits(t api.LakeTable, net []int, l api.LakeReading, volume int) bool {
	for _, flow := range net[:l.Tick] {
		volume += flow
	}
	bottom, top := ends(t)
	if volume < bottom.Volume || volume > top.Volume {
		return false
	}
	level := modelLevel(t, volume)
	return level.Cmp(fraction(l.Level.Lo, 1)) >= 0 && level.Cmp(fraction(l.Level.Hi, 1)) <= 0
}
