package lake_test

import (
	"math"
	"slices"
	"testing"

	"guidevane/api"
	"guidevane/lake"
)

// badPairs is pairs with errors, also of two that apply at once.
var badPairs = []struct {
	name string
	pair api.LakePair
	want api.Errno
}{
	{"upper", api.LakePair{Lower: example()}, api.ErrShape},
	{"upper before lower", api.LakePair{Upper: knots(5, 5, 5, 6)}, api.ErrOrder},
	{"lower", api.LakePair{Upper: example(), Lower: knots(0, 0, 1, 5, 2, 6)}, api.ErrBreak},
	{"lower before rate", api.LakePair{Upper: example(), Rate: -1}, api.ErrShape},
	{"rate below 0", twins(-1), api.ErrRange},
	{"rate too high", twins(api.MaxLakeRate + 1), api.ErrRange},
	{"least rate", twins(math.MinInt), api.ErrRange},
	{"greatest rate", twins(math.MaxInt), api.ErrRange},
}

// badStates is states that lie outside of the tables of raised.
var badStates = []api.LakeState{
	{Upper: 6, Lower: 20}, {Upper: 18, Lower: 20}, {Upper: 10, Lower: 10}, {Upper: 10, Lower: 52},
	{Upper: math.MinInt, Lower: 20}, {Upper: 10, Lower: math.MaxInt}, {},
}

// raised is a pair of different lakes whose bottoms are above 0.
func raised() api.LakePair {
	return api.LakePair{Upper: knots(50, 7, 53, 17), Lower: knots(30, 11, 38, 51)}
}

// badFlows is flows out of range.
var badFlows = []api.LakeFlows{
	{InUpper: -1}, {InUpper: api.MaxLakeFlow + 1}, {InUpper: math.MinInt}, {InUpper: math.MaxInt},
	{InLower: -1}, {InLower: api.MaxLakeFlow + 1}, {InLower: math.MinInt}, {InLower: math.MaxInt},
	{Exchange: -api.MaxLakeFlow - 1}, {Exchange: api.MaxLakeFlow + 1}, {Exchange: math.MinInt}, {Exchange: math.MaxInt},
}

// P1.2.
func TestCheckPair(t *testing.T) {
	for _, c := range badPairs {
		if e := lake.CheckPair(c.pair); e != c.want {
			t.Error(c.name, e)
		}
	}
	for _, rate := range []int{0, 500, api.MaxLakeRate} {
		if e := lake.CheckPair(twins(rate)); e != api.OK {
			t.Error(rate, e)
		}
	}
}

// P1.2.
func TestCheckState(t *testing.T) {
	for _, c := range badPairs {
		if e := lake.CheckState(c.pair, api.LakeState{Upper: -1}); e != c.want {
			t.Error(c.name, e)
		}
	}
	for _, s := range badStates {
		if e := lake.CheckState(raised(), s); e != api.ErrRange {
			t.Error(s, e)
		}
	}
	for _, s := range []api.LakeState{{Upper: 7, Lower: 11}, {Upper: 17, Lower: 51}, {Upper: 7, Lower: 51}, {Upper: 17, Lower: 11}} {
		if e := lake.CheckState(raised(), s); e != api.OK {
			t.Error(s, e)
		}
	}
}

// P1.2.
func TestUsable(t *testing.T) {
	cases := []struct {
		pair        api.LakePair
		state, want api.LakeState
	}{
		{twins(500), api.LakeState{Upper: 2950, Lower: 500}, api.LakeState{Upper: 2500, Lower: 50}},
		{twins(0), api.LakeState{}, api.LakeState{}},
		{twins(0), api.LakeState{Upper: 3000, Lower: 3000}, api.LakeState{}},
		{twins(0), api.LakeState{Upper: 3000}, api.LakeState{Upper: 3000}},
		{twins(0), api.LakeState{Lower: 3000}, api.LakeState{Lower: 3000}},
		{raised(), api.LakeState{Upper: 12, Lower: 20}, api.LakeState{Upper: 5, Lower: 5}},
		{raised(), api.LakeState{Upper: 17, Lower: 49}, api.LakeState{Upper: 2, Lower: 0}},
		{raised(), api.LakeState{Upper: 7, Lower: 14}, api.LakeState{Upper: 0, Lower: 3}},
	}
	for _, c := range cases {
		if u, e := lake.Usable(c.pair, c.state); e != api.OK || u != c.want {
			t.Error(c, u, e)
		}
	}
	for _, c := range badPairs {
		if u, e := lake.Usable(c.pair, api.LakeState{Upper: -1}); e != c.want || u != (api.LakeState{}) {
			t.Error(c.name, u, e)
		}
	}
	for _, s := range badStates {
		if u, e := lake.Usable(raised(), s); e != api.ErrRange || u != (api.LakeState{}) {
			t.Error(s, u, e)
		}
	}
}

// P1.3.
func TestStep(t *testing.T) {
	uneven := api.LakePair{Upper: knots(0, 0, 3, 10), Lower: knots(0, 0, 3, 11), Rate: 999}
	steep := api.LakePair{Upper: knots(50, 7, 51, 100007), Lower: knots(50, 7, 51, 100007), Rate: 1000}
	cases := []struct {
		name  string
		pair  api.LakePair
		from  api.LakeState
		flows api.LakeFlows
		to    api.LakeState
		loss  api.LakeLoss
	}{
		{"example 2", twins(500), api.LakeState{Upper: 2000, Lower: 500}, api.LakeFlows{InUpper: 7, Exchange: 100}, api.LakeState{Upper: 2097, Lower: 395}, api.LakeLoss{Evaporated: 15}},
		{"example 3", twins(500), api.LakeState{Upper: 2950, Lower: 500}, api.LakeFlows{Exchange: 200}, api.LakeState{Upper: 3000, Lower: 295}, api.LakeLoss{Evaporated: 15, Spilled: 140}},
		{"nothing", twins(0), api.LakeState{Upper: 5, Lower: 6}, api.LakeFlows{}, api.LakeState{Upper: 5, Lower: 6}, api.LakeLoss{}},
		{"into the lower lake", twins(0), api.LakeState{Upper: 50, Lower: 60}, api.LakeFlows{InUpper: 1, InLower: 2, Exchange: -10}, api.LakeState{Upper: 41, Lower: 72}, api.LakeLoss{}},
		{"each rounded down", uneven, api.LakeState{Upper: 9, Lower: 9}, api.LakeFlows{}, api.LakeState{Upper: 6, Lower: 6}, api.LakeLoss{Evaporated: 6}},
		{"at a knot the piece below", twins(1000), api.LakeState{Upper: 1000, Lower: 1001}, api.LakeFlows{}, api.LakeState{Upper: 990, Lower: 981}, api.LakeLoss{Evaporated: 30}},
		{"at the bottom nothing", steep, api.LakeState{Upper: 7, Lower: 8}, api.LakeFlows{}, api.LakeState{Upper: 7, Lower: 7}, api.LakeLoss{Evaporated: 1}},
		{"evaporation before inflow", steep, api.LakeState{Upper: 7, Lower: 10}, api.LakeFlows{InUpper: 50, InLower: 60}, api.LakeState{Upper: 57, Lower: 67}, api.LakeLoss{Evaporated: 3}},
		{"down to the bottom, then the inflow", steep, api.LakeState{Upper: 100006, Lower: 100007}, api.LakeFlows{InUpper: 1, InLower: 1}, api.LakeState{Upper: 8, Lower: 8}, api.LakeLoss{Evaporated: 199999}},
		{"spilled from both", raised(), api.LakeState{Upper: 17, Lower: 50}, api.LakeFlows{InUpper: 4, InLower: 5, Exchange: -1}, api.LakeState{Upper: 17, Lower: 51}, api.LakeLoss{Spilled: 8}},
		{"to the top exactly", raised(), api.LakeState{Upper: 16, Lower: 49}, api.LakeFlows{InUpper: 1, InLower: 2}, api.LakeState{Upper: 17, Lower: 51}, api.LakeLoss{}},
		{"to the bottom exactly", raised(), api.LakeState{Upper: 12, Lower: 14}, api.LakeFlows{Exchange: -5}, api.LakeState{Upper: 7, Lower: 19}, api.LakeLoss{}},
		{"to the lower bottom exactly", raised(), api.LakeState{Upper: 12, Lower: 14}, api.LakeFlows{Exchange: 3}, api.LakeState{Upper: 15, Lower: 11}, api.LakeLoss{}},
		{"inflow is there at once", raised(), api.LakeState{Upper: 7, Lower: 14}, api.LakeFlows{InUpper: 5, Exchange: -5}, api.LakeState{Upper: 7, Lower: 19}, api.LakeLoss{}},
		{"spilled after the exchange", raised(), api.LakeState{Upper: 17, Lower: 14}, api.LakeFlows{InUpper: 5, Exchange: -5}, api.LakeState{Upper: 17, Lower: 19}, api.LakeLoss{}},
		{"greatest flows", twins(0), api.LakeState{}, api.LakeFlows{InUpper: api.MaxLakeFlow, InLower: api.MaxLakeFlow, Exchange: api.MaxLakeFlow}, api.LakeState{Upper: 3000}, api.LakeLoss{Spilled: 2*api.MaxLakeFlow - 3000}},
		{"greatest flows down", twins(0), api.LakeState{}, api.LakeFlows{InUpper: api.MaxLakeFlow, Exchange: -api.MaxLakeFlow}, api.LakeState{Lower: 3000}, api.LakeLoss{Spilled: api.MaxLakeFlow - 3000}},
	}
	for _, c := range cases {
		if s, l, e := lake.Step(c.pair, c.from, c.flows); e != api.OK || s != c.to || l != c.loss {
			t.Error(c.name, s, l, e)
		}
	}
}

// P1.3.
func TestStepErrors(t *testing.T) {
	try := func(name string, p api.LakePair, s api.LakeState, x api.LakeFlows, want api.Errno) {
		if s, l, e := lake.Step(p, s, x); e != want || s != (api.LakeState{}) || l != (api.LakeLoss{}) {
			t.Error(name, s, l, e)
		}
	}
	for _, c := range badPairs {
		try(c.name, c.pair, api.LakeState{}, api.LakeFlows{InUpper: -1}, c.want)
	}
	for _, s := range badStates {
		try("state", raised(), s, api.LakeFlows{}, api.ErrRange)
	}
	for _, x := range badFlows {
		try("flows", twins(0), api.LakeState{Upper: 100, Lower: 100}, x, api.ErrRange)
	}
	try("flows before the step", raised(), api.LakeState{Upper: 7, Lower: 11}, api.LakeFlows{InLower: -1, Exchange: -1}, api.ErrRange)
	try("below the upper bottom", raised(), api.LakeState{Upper: 12, Lower: 14}, api.LakeFlows{Exchange: -6}, api.ErrBreak)
	try("below the lower bottom", raised(), api.LakeState{Upper: 12, Lower: 14}, api.LakeFlows{Exchange: 4}, api.ErrBreak)
	try("nothing is left after evaporation", twins(1000), api.LakeState{Upper: 10, Lower: 10}, api.LakeFlows{Exchange: -1}, api.ErrBreak)
	try("the lower lake too", twins(1000), api.LakeState{Upper: 10, Lower: 10}, api.LakeFlows{Exchange: 1}, api.ErrBreak)
	try("what is spilled above is lost", raised(), api.LakeState{Upper: 17, Lower: 11}, api.LakeFlows{InUpper: 9, Exchange: 1}, api.ErrBreak)
}

// P1.3.
func TestRunOf(t *testing.T) {
	p, s := twins(500), api.LakeState{Upper: 2950, Lower: 500}
	l := []api.LakeFlows{{Exchange: 200}, {InLower: 20, Exchange: 100}, {Exchange: -1000}}
	want := []api.LakeState{{Upper: 3000, Lower: 295}, {Upper: 3000, Lower: 210}, {Upper: 1990, Lower: 1205}}
	if got, loss, e := lake.RunOf(p, s, l); e != api.OK || !slices.Equal(got, want) || loss != (api.LakeLoss{Evaporated: 45, Spilled: 230}) {
		t.Error(got, loss, e)
	}
	if got, loss, e := lake.RunOf(p, s, nil); e != api.OK || len(got) != 0 || loss != (api.LakeLoss{}) {
		t.Error(got, loss, e)
	}
	most := make([]api.LakeFlows, api.MaxLakeTicks)
	if got, _, e := lake.RunOf(twins(0), s, most); e != api.OK || len(got) != api.MaxLakeTicks || got[api.MaxLakeTicks-1] != s {
		t.Error(got, e)
	}
}

// P1.3.
func TestRunErrors(t *testing.T) {
	try := func(name string, p api.LakePair, s api.LakeState, l []api.LakeFlows, want api.Errno) {
		if states, loss, e := lake.RunOf(p, s, l); e != want || len(states) != 0 || loss != (api.LakeLoss{}) {
			t.Error(name, states, loss, e)
		}
	}
	long := make([]api.LakeFlows, api.MaxLakeTicks+1)
	long[0].InUpper = -1
	s := api.LakeState{Upper: 12, Lower: 14}
	for _, c := range badPairs {
		try(c.name, c.pair, api.LakeState{}, long, c.want)
	}
	for _, s := range badStates {
		try("state before flows", raised(), s, long, api.ErrRange)
	}
	try("too many, before each", raised(), s, long, api.ErrLarge)
	for _, x := range badFlows {
		try("flows", raised(), s, []api.LakeFlows{{}, x}, api.ErrRange)
		try("flows before steps", raised(), s, []api.LakeFlows{{Exchange: 100}, x}, api.ErrRange)
	}
	try("second step", raised(), s, []api.LakeFlows{{Exchange: -3}, {Exchange: -3}}, api.ErrBreak)
	try("step that later flows would make up for", raised(), s, []api.LakeFlows{{Exchange: -6}, {InUpper: 9}}, api.ErrBreak)
}

// P1.3.
func TestStepsAsModel(t *testing.T) {
	r := random(3)
	wide := api.LakePair{Upper: wideTable(), Lower: wideTable(), Rate: 1000}
	for i := range 3000 {
		p, most := randomPair(r, 10, api.MaxLakeRate), 60
		if i%4 == 0 {
			p, most = wide, api.MaxLakeFlow
		}
		s, l := randomState(r, p), randomFlows(r, 1+r.IntN(6), most)
		wantState, wantLoss, wantErrno := modelStep(p, s, l[0])
		if got, loss, e := lake.Step(p, s, l[0]); got != wantState || loss != wantLoss || e != wantErrno {
			t.Fatal(p, s, l[0], got, loss, e)
		}
		want, wantLoss, wantErrno := modelRun(p, s, l)
		if want = want[1:]; wantErrno != api.OK {
			want, wantLoss = nil, api.LakeLoss{}
		}
		if got, loss, e := lake.RunOf(p, s, l); !slices.Equal(got, want) || loss != wantLoss || e != wantErrno {
			t.Fatal(p, s, l, got, loss, e)
		}
	}
}

// P1.8.
func TestWaterIsKept(t *testing.T) {
	r := random(4)
	done := 0
	for range 2000 {
		p := randomPair(r, 10, api.MaxLakeRate)
		s, l := randomState(r, p), randomFlows(r, 1+r.IntN(20), 20)
		states, loss, e := lake.RunOf(p, s, l)
		if e != api.OK {
			continue
		}
		done++
		before := s.Upper + s.Lower
		for _, x := range l {
			before += x.InUpper + x.InLower
		}
		last := states[len(states)-1]
		if after := last.Upper + last.Lower + loss.Evaporated + loss.Spilled; after != before {
			t.Fatal(p, s, l, before, after)
		}
	}
	if done < 200 {
		t.Error("hardly any run is possible:", done)
	}
}

// P1.8.
func TestUpAndDownAgain(t *testing.T) {
	r := random(5)
	for range 500 {
		p := randomPair(r, 10, 0)
		s := randomState(r, p)
		u, _ := lake.Usable(p, s)
		up := between(r, -u.Upper, u.Lower)
		states, loss, e := lake.RunOf(p, s, []api.LakeFlows{{Exchange: up}, {Exchange: -up}})
		if e != api.OK || loss != (api.LakeLoss{}) || states[1] != s {
			t.Fatal(p, s, up, states, loss, e)
		}
	}
}

// P1.10.
func TestUsableIsWhatIsPossible(t *testing.T) {
	r := random(6)
	for range 500 {
		p := randomPair(r, 10, 0)
		s := randomState(r, p)
		u, e := lake.Usable(p, s)
		if e != api.OK {
			t.Fatal(p, s, e)
		}
		for _, x := range []int{-u.Upper - 1, -u.Upper, 0, u.Lower, u.Lower + 1, between(r, -u.Upper, u.Lower)} {
			_, loss, e := lake.Step(p, s, api.LakeFlows{Exchange: x})
			possible := e == api.OK && loss.Spilled == 0
			if possible != (-u.Upper <= x && x <= u.Lower) {
				t.Fatal(p, s, u, x, loss, e)
			}
		}
	}
}
