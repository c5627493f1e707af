package lake_test

import (
	"math"
	"math/rand/v2"
	"testing"

	"guidevane/api"
	"guidevane/lake"
)

// free is limits of the example's table that nothing violates.
func free() api.LakeLimit {
	return api.LakeLimit{Levels: api.Range{Lo: 0, Hi: 200}, Fall: api.MaxLakeLevel, Rise: api.MaxLakeLevel, Window: 1}
}

func both(l api.LakeLimit) api.LakeLimits {
	return api.LakeLimits{Upper: l, Lower: l}
}

func exchanges(l ...int) []api.LakeFlows {
	var flows []api.LakeFlows
	for _, x := range l {
		flows = append(flows, api.LakeFlows{Exchange: x})
	}
	return flows
}

// badLimits is limits of a lake with the example's table, raised by 10 levels, that have errors.
var badLimits = []struct {
	limit api.LakeLimit
	want  api.Errno
}{
	{api.LakeLimit{Levels: api.Range{Lo: 9, Hi: 20}, Window: 1}, api.ErrRange},
	{api.LakeLimit{Levels: api.Range{Lo: 211, Hi: 210}, Window: 1}, api.ErrRange},
	{api.LakeLimit{Levels: api.Range{Lo: 20, Hi: 211}, Window: 1}, api.ErrRange},
	{api.LakeLimit{Levels: api.Range{Lo: 20, Hi: 9}, Window: 1}, api.ErrRange},
	{api.LakeLimit{Levels: api.Range{Lo: math.MinInt, Hi: math.MaxInt}, Window: 1}, api.ErrRange},
	{api.LakeLimit{Levels: api.Range{Lo: 20, Hi: 30}, Fall: -1, Window: 1}, api.ErrRange},
	{api.LakeLimit{Levels: api.Range{Lo: 20, Hi: 30}, Fall: api.MaxLakeLevel + 1, Window: 1}, api.ErrRange},
	{api.LakeLimit{Levels: api.Range{Lo: 20, Hi: 30}, Rise: -1, Window: 1}, api.ErrRange},
	{api.LakeLimit{Levels: api.Range{Lo: 20, Hi: 30}, Rise: api.MaxLakeLevel + 1, Window: 1}, api.ErrRange},
	{api.LakeLimit{Levels: api.Range{Lo: 20, Hi: 30}}, api.ErrRange},
	{api.LakeLimit{Levels: api.Range{Lo: 20, Hi: 30}, Window: api.MaxLakeTicks + 1}, api.ErrRange},
	{api.LakeLimit{Levels: api.Range{Lo: 20, Hi: 30}, Window: math.MinInt}, api.ErrRange},
	{api.LakeLimit{Levels: api.Range{Lo: 30, Hi: 20}}, api.ErrRange},
	{api.LakeLimit{Levels: api.Range{Lo: 30, Hi: 20}, Window: 1}, api.ErrOrder},
	{api.LakeLimit{Levels: api.Range{Lo: 210, Hi: 10}, Window: 200}, api.ErrOrder},
}

// high is the pair to which badLimits belong: no other level than the bottom's and the top's are its limits.
func high() api.LakePair {
	t := knots(10, 0, 110, 1000, 210, 3000)
	return api.LakePair{Upper: t, Lower: t}
}

func goodLimit() api.LakeLimit {
	return api.LakeLimit{Levels: api.Range{Lo: 10, Hi: 210}, Fall: api.MaxLakeLevel, Rise: api.MaxLakeLevel, Window: api.MaxLakeTicks}
}

// P1.4.
func TestCheckLimits(t *testing.T) {
	for _, c := range badPairs {
		if e := lake.CheckLimits(c.pair, api.LakeLimits{}); e != c.want {
			t.Error(c.name, e)
		}
	}
	for _, c := range badLimits {
		if e := lake.CheckLimits(high(), api.LakeLimits{Upper: c.limit, Lower: goodLimit()}); e != c.want {
			t.Error("upper", c, e)
		}
		if e := lake.CheckLimits(high(), api.LakeLimits{Upper: goodLimit(), Lower: c.limit}); e != c.want {
			t.Error("lower", c, e)
		}
	}
	order := api.LakeLimit{Levels: api.Range{Lo: 30, Hi: 20}, Window: 1}
	if e := lake.CheckLimits(high(), api.LakeLimits{Upper: order}); e != api.ErrOrder {
		t.Error("the order of the upper lake before the range of the lower one", e)
	}
	for _, l := range []api.LakeLimit{goodLimit(), {Levels: api.Range{Lo: 10, Hi: 10}, Window: 1}, {Levels: api.Range{Lo: 210, Hi: 210}, Window: 1}} {
		if e := lake.CheckLimits(high(), both(l)); e != api.OK {
			t.Error(l, e)
		}
	}
	different := api.LakePair{Upper: example(), Lower: knots(300, 0, 400, 10)}
	lower := api.LakeLimit{Levels: api.Range{Lo: 300, Hi: 400}, Window: 1}
	if e := lake.CheckLimits(different, api.LakeLimits{Upper: free(), Lower: lower}); e != api.OK {
		t.Error("limits of different lakes", e)
	}
	if e := lake.CheckLimits(different, api.LakeLimits{Upper: lower, Lower: lower}); e != api.ErrRange {
		t.Error("limits of the wrong lake", e)
	}
}

// P1.4.
func TestTaskErrors(t *testing.T) {
	try := func(name string, p api.LakePair, s api.LakeState, x api.LakeTask, want api.Errno) {
		if v, e := lake.ViolationOf(p, s, x); e != want || v != (api.LakeViolation{}) {
			t.Error(name, v, e)
		}
		if n, e := lake.PermittedFor(p, s, x); e != want || n != 0 {
			t.Error(name, n, e)
		}
	}
	good := api.LakeTask{Limits: both(goodLimit()), Flows: exchanges(0)}
	for _, c := range badPairs {
		try(c.name, c.pair, api.LakeState{Upper: -1}, api.LakeTask{}, c.want)
	}
	for _, s := range []api.LakeState{{Upper: -1}, {Lower: -1}, {Upper: 3001}, {Lower: 3001}} {
		try("state", high(), s, good, api.ErrRange)
		try("state before limits", high(), s, api.LakeTask{Limits: both(badLimits[13].limit)}, api.ErrRange)
	}
	long := make([]api.LakeFlows, api.MaxLakeTicks+1)
	long[0].Exchange = math.MinInt
	for _, c := range badLimits {
		try("upper limits", high(), api.LakeState{}, api.LakeTask{Limits: api.LakeLimits{Upper: c.limit, Lower: goodLimit()}, Flows: long}, c.want)
		try("lower limits", high(), api.LakeState{}, api.LakeTask{Limits: api.LakeLimits{Upper: goodLimit(), Lower: c.limit}}, c.want)
	}
	try("too many flows", high(), api.LakeState{}, api.LakeTask{Limits: good.Limits, Flows: long}, api.ErrLarge)
	for _, x := range badFlows {
		try("last flows", high(), api.LakeState{}, api.LakeTask{Limits: good.Limits, Flows: []api.LakeFlows{{}, x}}, api.ErrRange)
		try("first flows", high(), api.LakeState{}, api.LakeTask{Limits: good.Limits, Flows: []api.LakeFlows{x, {}}}, api.ErrRange)
	}
	low := both(api.LakeLimit{Levels: api.Range{Lo: 20, Hi: 30}, Window: 1})
	try("flows before violations", high(), api.LakeState{}, api.LakeTask{Limits: low, Flows: []api.LakeFlows{{}, badFlows[0]}}, api.ErrRange)
}

func limit(lo, hi, fall, rise, window int) api.LakeLimit {
	return api.LakeLimit{Levels: api.Range{Lo: lo, Hi: hi}, Fall: fall, Rise: rise, Window: window}
}

// upper and lower limit one lake alone.
func upper(lo, hi, fall, rise, window int) api.LakeLimits {
	return api.LakeLimits{Upper: limit(lo, hi, fall, rise, window), Lower: free()}
}

func lower(lo, hi, fall, rise, window int) api.LakeLimits {
	return api.LakeLimits{Upper: free(), Lower: limit(lo, hi, fall, rise, window)}
}

// P1.4.
func TestViolationOf(t *testing.T) {
	start := api.LakeState{Upper: 2000, Lower: 1000}
	cases := []struct {
		name   string
		start  api.LakeState
		limits api.LakeLimits
		flows  []api.LakeFlows
		want   api.LakeViolation
	}{
		{"example 5", start, both(limit(10, 190, 5, 5, 2)), exchanges(60, 60), api.LakeViolation{Tick: 1, Lake: 1, Kind: api.LakeFalls}},
		{"example 5 above", start, upper(10, 190, 5, 5, 2), exchanges(60, 60), api.LakeViolation{Tick: 2, Kind: api.LakeRises}},
		{"upper before lower", start, both(limit(10, 190, 5, 5, 2)), exchanges(30, 80), api.LakeViolation{Tick: 2, Kind: api.LakeRises}},
		{"upper before lower, though later in the list", start, api.LakeLimits{Upper: limit(0, 200, 9, 0, 1), Lower: limit(100, 200, 9, 9, 1)}, exchanges(20), api.LakeViolation{Tick: 1, Kind: api.LakeRises}},
		{"earlier lower before upper", start, api.LakeLimits{Upper: limit(0, 151, 9, 9, 1), Lower: limit(99, 200, 9, 9, 1)}, exchanges(20, 20), api.LakeViolation{Tick: 1, Lake: 1, Kind: api.LakeLow}},
		{"low before falls", start, lower(100, 200, 0, 0, 1), exchanges(10), api.LakeViolation{Tick: 1, Lake: 1, Kind: api.LakeLow}},
		{"low before rises", start, upper(180, 200, 0, 0, 1), exchanges(20), api.LakeViolation{Tick: 1, Kind: api.LakeLow}},
		{"high before rises", start, upper(0, 150, 0, 0, 1), exchanges(20), api.LakeViolation{Tick: 1, Kind: api.LakeHigh}},
		{"high before falls", start, lower(0, 50, 0, 0, 1), exchanges(20), api.LakeViolation{Tick: 1, Lake: 1, Kind: api.LakeHigh}},
		{"flows of 0 at once", api.LakeState{Upper: 3000}, upper(0, 190, 0, 0, 1), exchanges(0), api.LakeViolation{Tick: 1, Kind: api.LakeHigh}},
		{"low by a part", api.LakeState{Upper: 100}, upper(10, 190, 9, 9, 1), exchanges(-1), api.LakeViolation{Tick: 1, Kind: api.LakeLow}},
		{"high by a part", api.LakeState{Upper: 2800, Lower: 9}, upper(10, 190, 9, 9, 1), exchanges(1), api.LakeViolation{Tick: 1, Kind: api.LakeHigh}},
		{"rise by a part more", api.LakeState{Upper: 2001, Lower: 1000}, upper(0, 200, 0, 5, 1), exchanges(101), api.LakeViolation{Tick: 1, Kind: api.LakeRises}},
		{"rise by a part alone", api.LakeState{Upper: 2001, Lower: 1000}, upper(0, 200, 0, 0, 1), exchanges(1), api.LakeViolation{Tick: 1, Kind: api.LakeRises}},
		{"fall by a part more, through a knot", api.LakeState{Upper: 1010}, upper(0, 200, 2, 0, 1), exchanges(-26), api.LakeViolation{Tick: 1, Kind: api.LakeFalls}},
		{"fall by a part alone", start, lower(0, 200, 0, 0, 1), exchanges(1), api.LakeViolation{Tick: 1, Lake: 1, Kind: api.LakeFalls}},
		{"against the tick 0 before the window is over", start, upper(0, 200, 9, 5, 200), exchanges(30, 30, 30, 11), api.LakeViolation{Tick: 4, Kind: api.LakeRises}},
		{"window that is just over", start, upper(0, 200, 9, 5, 3), exchanges(0, 34, 34, 33), api.LakeViolation{Tick: 4, Kind: api.LakeRises}},
		{"each lake its window", start, api.LakeLimits{Upper: limit(0, 200, 9, 2, 1), Lower: limit(0, 200, 4, 9, 2)}, exchanges(30, 30), api.LakeViolation{Tick: 2, Lake: 1, Kind: api.LakeFalls}},
		{"before a step that is impossible", start, lower(0, 200, 50, 9, 1), exchanges(501, 500), api.LakeViolation{Tick: 1, Lake: 1, Kind: api.LakeFalls}},
	}
	for _, c := range cases {
		if v, e := lake.ViolationOf(twins(0), c.start, api.LakeTask{Limits: c.limits, Flows: c.flows}); e != api.OK || v != c.want {
			t.Error(c.name, v, e)
		}
	}
	dry := api.LakeTask{Limits: upper(0, 200, 0, 0, 1), Flows: exchanges(0)}
	if v, e := lake.ViolationOf(twins(500), start, dry); e != api.OK || v != (api.LakeViolation{Tick: 1, Kind: api.LakeFalls}) {
		t.Error("flows of 0 by evaporation", v, e)
	}
}

// P1.4.
func TestNoViolation(t *testing.T) {
	start := api.LakeState{Upper: 2000, Lower: 1000}
	cases := []struct {
		name   string
		start  api.LakeState
		limits api.LakeLimits
		flows  []api.LakeFlows
		want   api.Errno
	}{
		{"no flows", api.LakeState{}, both(limit(10, 190, 0, 0, 1)), nil, api.ErrNone},
		{"flows of 0", start, both(limit(100, 150, 0, 0, 1)), exchanges(0, 0, 0), api.ErrNone},
		{"the tick 0 is not watched", api.LakeState{Upper: 3000, Lower: 500}, upper(0, 190, 20, 0, 1), exchanges(-200), api.ErrNone},
		{"low exactly", api.LakeState{Upper: 101}, upper(10, 190, 9, 9, 1), exchanges(-1), api.ErrNone},
		{"high exactly", api.LakeState{Upper: 2799, Lower: 9}, upper(10, 190, 9, 9, 1), exchanges(1), api.ErrNone},
		{"rise exactly, from a part to a part", api.LakeState{Upper: 2001, Lower: 1000}, upper(0, 200, 0, 5, 1), exchanges(100), api.ErrNone},
		{"fall exactly, through a knot", api.LakeState{Upper: 1010}, upper(0, 200, 2, 0, 1), exchanges(-25), api.ErrNone},
		{"rise before the window", start, upper(0, 200, 9, 5, 3), exchanges(30, 30, 30, 11), api.ErrNone},
		{"a fall within the window that is made up for", start, upper(0, 200, 9, 5, 3), exchanges(0, 0, -120, 120), api.ErrNone},
		{"a fall below a rise within the window", start, upper(0, 200, 0, 9, 2), exchanges(40, -20), api.ErrNone},
		{"impossible at once", start, both(limit(10, 190, 0, 0, 1)), exchanges(1001), api.ErrBreak},
		{"impossible later", start, both(free()), exchanges(500, 501), api.ErrBreak},
		{"impossible before a violation", start, upper(0, 200, 9, 99, 1), exchanges(1001, -900), api.ErrBreak},
		{"impossible, though the upper lake rises too fast", start, upper(0, 200, 9, 0, 1), exchanges(1001), api.ErrBreak},
	}
	for _, c := range cases {
		if v, e := lake.ViolationOf(twins(0), c.start, api.LakeTask{Limits: c.limits, Flows: c.flows}); e != c.want || v != (api.LakeViolation{}) {
			t.Error(c.name, v, e)
		}
	}
}

// P1.4.
func TestPermittedFor(t *testing.T) {
	start := api.LakeState{Upper: 2000, Lower: 1000}
	cases := []struct {
		name   string
		rate   int
		start  api.LakeState
		limits api.LakeLimits
		flows  []api.LakeFlows
		want   int
	}{
		{"example 6", 0, start, both(limit(10, 190, 5, 5, 2)), exchanges(20), 40},
		{"the last flows alone", 0, start, both(limit(10, 190, 5, 5, 2)), exchanges(api.MaxLakeFlow, -500, 20), 40},
		{"until the lower lake is low", 0, start, lower(10, 190, 5, 5, 2), exchanges(20), 45},
		{"no end", 0, start, both(limit(100, 150, 0, 0, api.MaxLakeTicks)), exchanges(500, 0), api.MaxLakeTicks},
		{"violated at once", 0, start, both(limit(10, 190, 1, 1, 1)), exchanges(0, 60), 0},
		{"impossible at once", 0, start, both(free()), exchanges(-2001), 0},
		{"impossible later", 0, api.LakeState{Lower: 100}, both(free()), exchanges(30), 3},
		{"window longer than what is permitted", 0, start, upper(0, 200, 0, 5, 200), exchanges(20), 5},
		{"window shorter than that", 0, start, upper(0, 200, 0, 5, 5), exchanges(20), 50},
		{"evaporation", 500, start, upper(145, 200, 9, 9, 1), exchanges(0), 10},
		{"inflow against evaporation", 1000, start, upper(150, 150, 0, 0, 1), []api.LakeFlows{{InUpper: 20}}, api.MaxLakeTicks},
	}
	for _, c := range cases {
		if n, e := lake.PermittedFor(twins(c.rate), c.start, api.LakeTask{Limits: c.limits, Flows: c.flows}); e != api.OK || n != c.want {
			t.Error(c.name, n, e)
		}
	}
	if n, e := lake.PermittedFor(twins(0), start, api.LakeTask{Limits: both(free())}); e != api.ErrShape || n != 0 {
		t.Error("no flows", n, e)
	}
}

// randomTask returns a task that is neither violated at once as a rule, nor permitted for long.
func randomTask(r *rand.Rand) (api.LakePair, api.LakeState, api.LakeTask) {
	p, size, most := randomPair(r, 6, 300), 4, 25
	if r.IntN(4) == 0 {
		p.Upper, p.Lower, size, most = wideTable(), wideTable(), 2000, 1000000
	}
	limits := api.LakeLimits{Upper: randomLimit(r, p.Upper, size), Lower: randomLimit(r, p.Lower, size)}
	return p, randomState(r, p), api.LakeTask{Limits: limits, Flows: randomFlows(r, 1+r.IntN(6), 1+r.IntN(most))}
}

// P1.4.
func TestViolationsAsModel(t *testing.T) {
	r := random(7)
	seen := map[api.Errno]int{}
	for range 3000 {
		p, s, x := randomTask(r)
		want, wantErrno := modelViolation(p, s, x)
		v, e := lake.ViolationOf(p, s, x)
		if v != want || e != wantErrno {
			t.Fatal(p, s, x, v, e, want, wantErrno)
		}
		seen[e]++
	}
	for _, e := range []api.Errno{api.OK, api.ErrNone, api.ErrBreak} {
		if seen[e] < 50 {
			t.Error("hardly ever:", e, seen[e])
		}
	}
}

// P1.4.
func TestPermittedAsModel(t *testing.T) {
	r := random(8)
	for range 300 {
		p, s, x := randomTask(r)
		x.Flows[len(x.Flows)-1].Exchange /= 8
		want := modelPermitted(p, s, x)
		if n, e := lake.PermittedFor(p, s, x); e != api.OK || n != want {
			t.Fatal(p, s, x, n, e, want)
		}
	}
}

// P1.11.
func TestEveryBeginning(t *testing.T) {
	r := random(9)
	for range 1000 {
		p, s, x := randomTask(r)
		v, e := lake.ViolationOf(p, s, x)
		for n := range x.Flows {
			begun, be := lake.ViolationOf(p, s, api.LakeTask{Limits: x.Limits, Flows: x.Flows[:n]})
			if e == api.OK && n >= v.Tick && (be != api.OK || begun != v) {
				t.Fatal("a longer run has another violation", p, s, x, n, begun, be)
			}
			if (e != api.OK || n < v.Tick) && be == api.OK {
				t.Fatal("a beginning has a violation", p, s, x, n, begun)
			}
		}
	}
}

// P1.11.
func TestWiderLimits(t *testing.T) {
	wider := func(t api.LakeTable, l api.LakeLimit) api.LakeLimit {
		bottom, top := ends(t)
		l.Levels = api.Range{Lo: max(bottom.Level, l.Levels.Lo-1), Hi: min(top.Level, l.Levels.Hi+1)}
		l.Fall, l.Rise = l.Fall+1, l.Rise+1
		return l
	}
	r := random(10)
	for range 1000 {
		p, s, x := randomTask(r)
		v, e := lake.ViolationOf(p, s, x)
		x.Limits = api.LakeLimits{Upper: wider(p.Upper, x.Limits.Upper), Lower: wider(p.Lower, x.Limits.Lower)}
		w, we := lake.ViolationOf(p, s, x)
		if we == api.OK && (e != api.OK || w.Tick < v.Tick) || e != api.OK && we != e {
			t.Fatal(p, s, x, v, e, w, we)
		}
	}
}
