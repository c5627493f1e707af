package water_test

import (
	"math"
	"slices"
	"testing"

	"guidevane/api"
	"guidevane/water"
)

// The nets of the tests of trees and states.
const (
	twin      = "s=9,t+5;a 0 1 2 n,b 1 0 3 o"                                   // two parallel conduits
	ladder    = "t+1,s=50,u+2,v=7;d 3 1 9 c,c 2 3 5 o,b 0 2 4 o,a 1 0 3 o"      // a path between two lakes, which begins at its end
	round     = "s=9,t+1,u+2,v+-4;a 0 1 1 n,b 1 2 2 n,c 2 3 3 n,d 3 1 4 o"      // a loop of junctions
	lakes     = "s=9,t=4;a 0 1 5 n"                                             // no junction
	quiet     = "s=9,t=4;a 0 1 5 c"                                             // nothing open
	twoRounds = "s=1,t+0;a 0 1 1 n,b 0 1 1 n,c 0 1 1 n"                         // two loops
	dryRounds = "s=1,t+0,u+0;a 0 1 1 n,b 0 1 1 n,c 0 1 1 n"                     // two loops, and a junction that nothing leads to
	noLake    = "s+1,t+0;a 0 1 1 n"                                             // no lake
	slippery  = "s=1,t+5;a 0 1 0 n,b 1 0 0 n"                                   // a loop without friction
	steps     = "s=9,t+1,u+2,v+3,w+0;a 4 3 1 n,b 3 2 1 n,c 2 1 1 n,d 1 0 1 n"   // a tree whose conduits come in reverse
	rough     = "s=1000000,t+10000,u+10000;a 1 0 1000 n,b 2 1 1000 n,c 0 2 0 n" // the greatest losses
)

// P2.5.
func TestTreeOf(t *testing.T) {
	for s, want := range map[string][]int{
		exampleX: {0}, closedX: {0}, twin: {0}, ladder: {1, 2}, round: {0, 1, 2}, lakes: nil, quiet: nil, twoRounds: {0}, slippery: {0}, steps: {0, 1, 2, 3}, rough: {0, 1},
		"s=0,t+0,u+0;a 1 2 1 n,b 0 1 1 n,c 0 2 1 n": {0, 1}, // a comes into it as soon as it can, before c
		"s=0,t+0,u+0;a 1 2 1 n,b 0 2 1 c,c 0 2 1 n": {0, 2}, // b is closed
		"s=0,t+0;a 0 1 1 c,b 0 1 1 o":               {1},
	} {
		if l, e := water.TreeOf(parsed(t, s)); e != api.OK || !slices.Equal(l, want) {
			t.Error(s, l, e)
		}
	}
	for _, s := range []string{exampleY, dryRounds, noLake, "s=0,t+0;a 0 1 1 c", "s=0,t=0,u+0;a 0 1 1 n"} {
		if l, e := water.TreeOf(parsed(t, s)); e != api.ErrGap || len(l) > 0 {
			t.Error(s, l, e)
		}
	}
}

// badForms is nets for each error of their form.
var badForms = map[string]api.Errno{
	exampleY: api.ErrGap, noLake: api.ErrGap, dryRounds: api.ErrGap, twoRounds: api.ErrLarge,
	"s=1,t=2;a 0 1 1 n,b 0 1 1 n": api.ErrLarge, "s=1,t+2,u=3,v=4;a 0 1 1 n,b 1 2 1 n,c 3 1 1 n": api.ErrLarge,
}

// P2.5 to P2.7: the error of the form comes before those of the other arguments.
func TestBadForms(t *testing.T) {
	for s, want := range badForms {
		n := parsed(t, s)
		if i, e := water.ClosingOf(n); e != want || i != 0 {
			t.Error(s, i, e)
		}
		for _, bad := range []int{0, 1, -1, math.MinInt, math.MaxInt} {
			if x, e := water.StateAt(n, bad); e != want || len(x.Flows)+len(x.Heads) > 0 {
				t.Error(s, x, e)
			}
			if x, e := water.GapAt(n, bad); e != want || x != 0 {
				t.Error(s, x, e)
			}
			if e := water.CheckCirculation(n, api.Range{Lo: bad, Hi: -bad}); e != want {
				t.Error(s, bad, e)
			}
			if x, e := water.HeadAnswer(n, bad, bad); e != want || x != 0 {
				t.Error(s, x, e)
			}
			if x, e := water.MostDraw(n, bad, bad); e != want || x != 0 {
				t.Error(s, x, e)
			}
		}
		if x, e := water.CirculationOf(n); e != want || x != (api.Range{}) {
			t.Error(s, x, e)
		}
		if x, e := water.SteadyOf(n); e != want || len(x.Flows)+len(x.Heads) > 0 {
			t.Error(s, x, e)
		}
	}
}

// P2.5.
func TestClosingOf(t *testing.T) {
	for s, want := range map[string]int{exampleX: 1, twin: 1, ladder: 3, round: 3, lakes: 0, slippery: 1, rough: 2, "s=0,t+0,u+0;a 1 2 1 n,b 0 1 1 n,c 0 2 1 n": 2, "s=0,t+0,u=0;a 0 2 1 n,b 0 1 1 n": 0} {
		if i, e := water.ClosingOf(parsed(t, s)); e != api.OK || i != want {
			t.Error(s, i, e)
		}
	}
	for _, s := range []string{closedX, quiet, steps} {
		if i, e := water.ClosingOf(parsed(t, s)); e != api.ErrNone || i != 0 {
			t.Error(s, i, e)
		}
	}
}

// P2.5.
func TestStateAt(t *testing.T) {
	for _, c := range []struct {
		net         string
		circulation int
		flows       []int
		heads       []int
	}{
		{exampleX, 17, []int{20, 17}, []int{100000, 60000, 0}},
		{exampleX, 18, []int{21, 18}, []int{100000, 55900, 0}},
		{exampleX, -5, []int{-2, -5}, []int{100000, 100400, 0}},
		{closedX, 0, []int{3, 0}, []int{100000, 99100, 0}},
		{twin, 1, []int{6, 1}, []int{9000, 8928}},
		{twin, -3, []int{2, -3}, []int{9000, 8992}},
		{ladder, 6, []int{0, 3, 5, 6}, []int{7145, 50000, 7045, 7000}},
		{lakes, 31, []int{31}, []int{9000, 4000}},
		{lakes, -200000, []int{-200000}, []int{9000, 4000}},
		{quiet, 0, []int{0}, []int{9000, 4000}},
		{steps, 0, []int{0, -3, -5, -6}, []int{9000, 8964, 8939, 8930, 8930}},
		{slippery, 7, []int{12, 7}, []int{1000, 1000}},
		{rough, 0, []int{-20000, -10000, 0}, []int{1000000000, -399000000000, -499000000000}},
		{rough, 200000, []int{180000, 190000, 200000}, []int{1000000000, 32401000000000, 68501000000000}},
	} {
		n := parsed(t, c.net)
		s, e := water.StateAt(n, c.circulation)
		want := modelState(n, c.circulation)
		if e != api.OK || !slices.Equal(s.Flows, c.flows) || !slices.Equal(s.Heads, c.heads) {
			t.Error(c, s, e)
		}
		if !slices.Equal(want.Flows, c.flows) || !slices.Equal(want.Heads, c.heads) {
			t.Error("the model", c, want)
		}
	}
	for _, c := range []struct {
		net         string
		circulation int
		want        api.Errno
	}{
		{exampleX, 200001, api.ErrRange}, {exampleX, -200001, api.ErrRange}, {exampleX, math.MinInt, api.ErrRange}, {exampleX, math.MaxInt, api.ErrRange},
		{closedX, 200001, api.ErrRange}, {closedX, math.MinInt, api.ErrRange}, {closedX, 1, api.ErrForm}, {closedX, -1, api.ErrForm}, {quiet, 200000, api.ErrForm},
	} {
		if s, e := water.StateAt(parsed(t, c.net), c.circulation); e != c.want || len(s.Flows)+len(s.Heads) > 0 {
			t.Error(c, s, e)
		}
	}
}

// P2.5.
func TestGapAt(t *testing.T) {
	for _, c := range []struct {
		net               string
		circulation, want int
		e                 api.Errno
	}{
		{exampleX, 17, -2200, api.OK}, {exampleX, 18, 8900, api.OK}, {exampleX, 0, -99100, api.OK}, {exampleX, -5, -105400, api.OK},
		{twin, 0, 50, api.OK}, {twin, -3, -19, api.OK}, {lakes, 31, -195, api.OK}, {lakes, 32, 120, api.OK}, {slippery, 3, 0, api.OK}, {slippery, -200000, 0, api.OK},
		{rough, 0, -500000000000, api.OK}, {rough, 200000, 68500000000000, api.OK}, {rough, -200000, -1000 * (220000*220000 + 210000*210000), api.OK},
		{closedX, 0, 0, api.ErrNone}, {closedX, 200001, 0, api.ErrNone}, {quiet, math.MinInt, 0, api.ErrNone},
		{exampleX, 200001, 0, api.ErrRange}, {exampleX, -200001, 0, api.ErrRange}, {exampleX, math.MinInt, 0, api.ErrRange}, {exampleX, math.MaxInt, 0, api.ErrRange},
	} {
		if x, e := water.GapAt(parsed(t, c.net), c.circulation); x != c.want || e != c.e {
			t.Error(c, x, e)
		}
	}
}

// checkBalance is P2.9: what arrives at each junction, minus what leaves it, is its draw.
func checkBalance(t *testing.T, n api.WaterNet, s api.WaterState) {
	t.Helper()
	stays := make([]int, len(n.Nodes))
	for i, c := range n.Conduits {
		stays[c.From] -= s.Flows[i]
		stays[c.To] += s.Flows[i]
		if !c.Open && s.Flows[i] != 0 {
			t.Error("a closed conduit has a flow", n, i, s)
		}
	}
	for i, x := range n.Nodes {
		if !x.Lake && stays[i] != x.Draw {
			t.Error("water is lost", n, i, s)
		}
	}
}

// P2.5 and P2.9: any net, and what the definitions say of it.
func TestStatesOfAnyNet(t *testing.T) {
	r := random(6)
	for range 2000 {
		n := randomCircuit(r, 1000, 100, 100)
		tree, _, _ := modelTree(n)
		if l, e := water.TreeOf(n); e != api.OK || !slices.Equal(l, tree) {
			t.Fatal(n, l, tree, e)
		}
		closing, circulation := modelClosing(n), 0
		i, e := water.ClosingOf(n)
		if len(closing) == 0 {
			if e != api.ErrNone || i != 0 {
				t.Fatal(n, i, e)
			}
		} else {
			if e != api.OK || i != closing[0] {
				t.Fatal(n, i, closing, e)
			}
			circulation = between(r, -2000, 2000)
			if x, e := water.GapAt(n, circulation); e != api.OK || x != modelGap(n, circulation) {
				t.Fatal(n, circulation, x, e)
			}
		}
		s, e := water.StateAt(n, circulation)
		want := modelState(n, circulation)
		if e != api.OK || !slices.Equal(s.Flows, want.Flows) || !slices.Equal(s.Heads, want.Heads) {
			t.Fatal(n, circulation, s, want, e)
		}
		checkBalance(t, n, s)
		for _, i := range tree {
			c := n.Conduits[i]
			if s.Heads[c.From]-s.Heads[c.To] != modelLoss(c.Resist, s.Flows[i]) {
				t.Fatal(n, circulation, i, s)
			}
		}
	}
}

// P2.5: the form of any net.
func TestFormsOfAnyNet(t *testing.T) {
	r := random(7)
	got := map[api.Errno]int{}
	for range 3000 {
		n := randomNet(r, 5, 2)
		tree, _, complete := modelTree(n)
		want := api.OK
		if !complete {
			want, tree = api.ErrGap, nil
		}
		if l, e := water.TreeOf(n); e != want || !slices.Equal(l, tree) {
			t.Fatal(n, l, tree, e)
		}
		if complete && len(modelClosing(n)) > 1 {
			want = api.ErrLarge
		}
		if _, e := water.StateAt(n, 0); e != want {
			t.Fatal(n, e, want)
		}
		got[want]++
	}
	if len(got) != 3 {
		t.Error(got)
	}
}
