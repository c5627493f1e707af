package water_test

import (
	"math"
	"slices"
	"testing"

	"guidevane/api"
	"guidevane/water"
)

// P2.6.
func TestCirculationOf(t *testing.T) {
	for s, want := range map[string]api.Range{
		exampleX: {Lo: 17, Hi: 18}, closedX: {}, quiet: {}, steps: {}, lakes: {Lo: 31, Hi: 32},
		"s=20,t=0;a 0 1 50 n":                                         {Lo: 20, Hi: 20},
		"s=0,t=20;a 0 1 50 n":                                         {Lo: -20, Hi: -20}, // against its direction
		"s=0,t=1;a 0 1 3 n":                                           {Lo: -19, Hi: -18},
		"s=5,t=5;a 0 1 3 n":                                           {},
		"s=9,t+10;a 0 1 2 n,b 0 1 2 n":                                {Lo: 5, Hi: 5},
		"s=9,t+10;a 0 1 2 n,b 1 0 2 n":                                {Lo: -5, Hi: -5},
		"s=9,t+11;a 0 1 2 n,b 0 1 2 n":                                {Lo: 5, Hi: 6},
		"s=9,t+-11;a 0 1 2 n,b 0 1 2 n":                               {Lo: -6, Hi: -5},
		"s=9,t+10;a 0 1 0 n,b 0 1 2 n":                                {}, // all flows without friction
		"s=9,t+10;a 0 1 2 n,b 0 1 0 n":                                {Lo: 10, Hi: 10},
		"s=1000000,t=0;a 0 1 1 n":                                     {Lo: 31622, Hi: 31623},
		"s=1000000,t=0;a 0 1 1000 n":                                  {Lo: 1000, Hi: 1000},
		"s=1000000,t+10000,u+10000,v=0;a 1 0 1 n,b 2 1 1 n,c 3 2 1 n": {Lo: -6330, Hi: -6329},
	} {
		if x, e := water.CirculationOf(parsed(t, s)); e != api.OK || x != want {
			t.Error(s, x, e)
		}
		if x, e := modelCirculation(parsed(t, s)); e != api.OK || x != want {
			t.Error("the model", s, x, e)
		}
	}
	for _, s := range []string{slippery, "s=1,t=0;a 0 1 0 n", "s=1,t=1;a 0 1 0 n", "s=1,t+3,u+5;a 0 1 7 n,b 1 2 0 n,c 1 2 0 o"} {
		if x, e := water.CirculationOf(parsed(t, s)); e != api.ErrZero || x != (api.Range{}) {
			t.Error(s, x, e)
		}
		if x, e := water.SteadyOf(parsed(t, s)); e != api.ErrZero || len(x.Flows)+len(x.Heads) > 0 {
			t.Error(s, x, e)
		}
		for _, bad := range []int{0, -1, math.MinInt, math.MaxInt} {
			if x, e := water.HeadAnswer(parsed(t, s), bad, bad); e != api.ErrZero || x != 0 {
				t.Error(s, x, e)
			}
			if x, e := water.MostDraw(parsed(t, s), bad, bad); e != api.ErrZero || x != 0 {
				t.Error(s, x, e)
			}
		}
	}
}

// P2.6.
func TestCheckCirculation(t *testing.T) {
	const exact = "s=20,t=0;a 0 1 50 n"
	for _, c := range []struct {
		net    string
		lo, hi int
		want   api.Errno
	}{
		{exampleX, 17, 18, api.OK}, {exampleX, 17, 17, api.ErrProof}, {exampleX, 18, 18, api.ErrProof}, {exampleX, 16, 17, api.ErrProof}, {exampleX, 18, 19, api.ErrProof}, {exampleX, 16, 18, api.ErrProof}, {exampleX, 17, 19, api.ErrProof}, {exampleX, 0, 0, api.ErrProof}, {exampleX, -200000, 200000, api.ErrProof},
		{exampleX, 18, 17, api.ErrOrder}, {exampleX, 200000, -200000, api.ErrOrder}, {exampleX, 200001, 17, api.ErrRange}, {exampleX, 17, 200001, api.ErrRange}, {exampleX, -200001, 18, api.ErrRange}, {exampleX, 17, -200001, api.ErrRange}, {exampleX, math.MaxInt, math.MinInt, api.ErrRange}, {exampleX, math.MinInt, math.MaxInt, api.ErrRange},
		{exact, 20, 20, api.OK}, {exact, 19, 20, api.ErrProof}, {exact, 20, 21, api.ErrProof}, {exact, 19, 21, api.ErrProof}, {exact, 19, 19, api.ErrProof},
		{lakes, 31, 32, api.OK}, {lakes, -32, -31, api.ErrProof},
		{"s=62,t=0;a 0 1 1 n", 248, 249, api.OK}, // the gap at 249 is 1
		{closedX, 0, 0, api.OK}, {closedX, 1, 1, api.ErrProof}, {closedX, 0, 1, api.ErrProof}, {closedX, -1, 0, api.ErrProof}, {closedX, 1, 0, api.ErrOrder}, {closedX, 0, 200001, api.ErrRange}, {closedX, math.MinInt, 0, api.ErrRange},
		{slippery, 0, 0, api.ErrZero}, {slippery, -1, 1, api.ErrZero}, {slippery, 1, 0, api.ErrOrder}, {slippery, 0, 200001, api.ErrRange}, {slippery, 200001, 0, api.ErrRange},
	} {
		if e := water.CheckCirculation(parsed(t, c.net), api.Range{Lo: c.lo, Hi: c.hi}); e != c.want {
			t.Error(c, e)
		}
	}
}

// P2.6.
func TestSteadyOf(t *testing.T) {
	for _, c := range []struct {
		net          string
		flows, heads []api.Range
	}{
		{exampleX, []api.Range{{Lo: 20, Hi: 21}, {Lo: 17, Hi: 18}}, []api.Range{{Lo: 100000, Hi: 100000}, {Lo: 55900, Hi: 60000}, {}}},
		{closedX, []api.Range{{Lo: 3, Hi: 3}, {}}, []api.Range{{Lo: 100000, Hi: 100000}, {Lo: 99100, Hi: 99100}, {}}},
		{"s=9,t+11;a 1 0 2 n,b 0 1 2 n", []api.Range{{Lo: -6, Hi: -5}, {Lo: 5, Hi: 6}}, []api.Range{{Lo: 9000, Hi: 9000}, {Lo: 8928, Hi: 8950}}},
		{quiet, []api.Range{{}}, []api.Range{{Lo: 9000, Hi: 9000}, {Lo: 4000, Hi: 4000}}},
	} {
		if s, e := water.SteadyOf(parsed(t, c.net)); e != api.OK || !slices.Equal(s.Flows, c.flows) || !slices.Equal(s.Heads, c.heads) {
			t.Error(c, s, e)
		}
	}
}

// P2.6, P2.9 and P2.10: any net, its circulation, and no other one.
func TestSteadyStatesOfAnyNet(t *testing.T) {
	r := random(8)
	widths := map[int]int{}
	for range 600 {
		n := randomCircuit(r, 1000, 100, 100)
		want, f := modelCirculation(n)
		x, e := water.CirculationOf(n)
		if e != f || x != want {
			t.Fatal(n, x, want, e, f)
		}
		s, e := water.SteadyOf(n)
		steady, _ := modelSteady(n)
		if e != f || !slices.Equal(s.Flows, steady.Flows) || !slices.Equal(s.Heads, steady.Heads) {
			t.Fatal(n, s, steady, e, f)
		}
		for lo := x.Lo - 2; lo <= x.Lo+2; lo++ {
			for hi := lo; hi <= lo+3; hi++ {
				r := api.Range{Lo: lo, Hi: hi}
				want := api.ErrProof
				if r == x {
					want = api.OK
				}
				if f != api.OK {
					want = f
				}
				if e := water.CheckCirculation(n, r); e != want {
					t.Fatal(n, r, x, e)
				}
			}
		}
		if f != api.OK {
			continue
		}
		widths[x.Hi-x.Lo]++
		for _, c := range []int{x.Lo, x.Hi} {
			state, _ := water.StateAt(n, c)
			checkBalance(t, n, state)
		}
		if len(modelClosing(n)) == 0 {
			continue
		}
		lo, _ := water.GapAt(n, x.Lo)
		hi, _ := water.GapAt(n, x.Hi)
		if lo > 0 || hi < 0 || (lo == 0) != (hi == 0) {
			t.Fatal(n, x, lo, hi)
		}
		a := between(r, -api.MaxWaterFlow, api.MaxWaterFlow)
		b := between(r, a, api.MaxWaterFlow)
		lo, _ = water.GapAt(n, a)
		hi, _ = water.GapAt(n, b)
		if lo > hi {
			t.Fatal(n, a, b, lo, hi)
		}
	}
	if widths[0] == 0 || widths[1] == 0 || len(widths) != 2 {
		t.Error(widths)
	}
}

// P2.6: the circulation of the nets with the greatest draws and heads lies far from the limits.
func TestGreatCirculations(t *testing.T) {
	r := random(9)
	for range 300 {
		n := randomCircuit(r, api.MaxWaterHead, api.MaxWaterDraw, 2)
		want, f := modelCirculation(n)
		if x, e := water.CirculationOf(n); e != f || x != want {
			t.Fatal(n, x, want, e, f)
		}
	}
}

// P2.7.
func TestHeadAnswer(t *testing.T) {
	for _, c := range []struct {
		net         string
		node, limit int
		want        int
		e           api.Errno
	}{
		{exampleX, 1, 55900, api.AnswerYes, api.OK}, {exampleX, 1, 55901, api.AnswerMaybe, api.OK}, {exampleX, 1, 56000, api.AnswerMaybe, api.OK}, {exampleX, 1, 60000, api.AnswerMaybe, api.OK}, {exampleX, 1, 60001, api.AnswerNo, api.OK}, {exampleX, 1, 0, api.AnswerYes, api.OK}, {exampleX, 1, 1000000000, api.AnswerNo, api.OK},
		{exampleX, 0, 100000, api.AnswerYes, api.OK}, {exampleX, 0, 100001, api.AnswerNo, api.OK}, {exampleX, 2, 0, api.AnswerYes, api.OK}, {exampleX, 2, 1, api.AnswerNo, api.OK},
		{closedX, 1, 99100, api.AnswerYes, api.OK}, {closedX, 1, 99101, api.AnswerNo, api.OK}, {"s=1,t+100;a 0 1 1 n", 1, 0, api.AnswerNo, api.OK},
		{"s=1000000,t+0;a 0 1 1 n", 1, 1000000000, api.AnswerYes, api.OK},
		{exampleX, 3, 0, 0, api.ErrMissing}, {exampleX, -1, 0, 0, api.ErrMissing}, {exampleX, math.MinInt, -1, 0, api.ErrMissing}, {exampleX, math.MaxInt, 1000000001, 0, api.ErrMissing},
		{exampleX, 1, -1, 0, api.ErrRange}, {exampleX, 1, 1000000001, 0, api.ErrRange}, {exampleX, 0, math.MinInt, 0, api.ErrRange}, {exampleX, 0, math.MaxInt, 0, api.ErrRange},
	} {
		if x, e := water.HeadAnswer(parsed(t, c.net), c.node, c.limit); x != c.want || e != c.e {
			t.Error(c, x, e)
		}
	}
}

// P2.7.
func TestMostDraw(t *testing.T) {
	for _, c := range []struct {
		net         string
		node, limit int
		want        int
		e           api.Errno
	}{
		{closedX, 1, 99000, 0, api.OK}, {closedX, 1, 99100, 0, api.OK}, {closedX, 1, 99101, 0, api.ErrNone}, {closedX, 1, 90000, 7, api.OK}, {closedX, 1, 90001, 6, api.OK}, {closedX, 1, 0, 28, api.OK},
		{closedX, 1, 100000, 0, api.ErrNone}, {"s=100,t+-3;a 0 1 100 n", 1, 100000, 3, api.OK}, {"s=100,t+-3;a 0 1 100 n", 1, 100901, 0, api.ErrNone}, {"s=100,t+-3;a 0 1 100 n", 1, 100900, 0, api.OK},
		{"s=100,t+0;a 0 1 0 n", 1, 100000, 100, api.OK}, {"s=100,t+9900;a 0 1 0 n", 1, 100000, 100, api.OK}, {"s=100,t+-10000;a 0 1 0 n", 1, 100000, 100, api.OK},
		{"s=100,t+9901;a 0 1 0 n", 1, 100000, 0, api.ErrRange}, {"s=100,t+10000;a 0 1 0 n", 1, 100001, 0, api.ErrRange},
		{"s=10,t+0;a 0 1 1 n", 1, 200, 98, api.OK}, {"s=10,t+0;a 0 1 1 n", 1, 199, 99, api.OK}, {"s=10,t+0;a 0 1 1 n", 1, 0, 100, api.OK},
		{exampleX, 1, 55900, 1, api.OK}, {exampleX, 1, 55901, 0, api.ErrNone}, {exampleX, 1, 51600, 2, api.OK},
		{exampleX, 0, 0, 0, api.ErrKind}, {exampleX, 2, 1000000000, 0, api.ErrKind}, {closedX, 0, 100000, 0, api.ErrKind},
		{exampleX, 3, 0, 0, api.ErrMissing}, {exampleX, -1, -1, 0, api.ErrMissing}, {exampleX, math.MinInt, 0, 0, api.ErrMissing}, {exampleX, 0, -1, 0, api.ErrRange}, {exampleX, 0, 1000000001, 0, api.ErrRange}, {exampleX, 1, math.MaxInt, 0, api.ErrRange}, {exampleX, 1, math.MinInt, 0, api.ErrRange},
	} {
		if x, e := water.MostDraw(parsed(t, c.net), c.node, c.limit); x != c.want || e != c.e {
			t.Error(c, x, e)
		}
	}
}

// P2.7: any net, against all that may be drawn.
func TestHeadsOfAnyNet(t *testing.T) {
	r := random(10)
	got := map[int]int{}
	for range 60 {
		n := randomCircuit(r, 30, 10, 10)
		s, e := modelSteady(n)
		if e != api.OK {
			continue
		}
		for node, x := range n.Nodes {
			limit := max(0, s.Heads[node].Lo-r.IntN(5)*r.IntN(1000)+between(r, -1, 1))
			answer := modelAnswer(n, node, limit)
			got[answer]++
			if a, e := water.HeadAnswer(n, node, limit); e != api.OK || a != answer {
				t.Fatal(n, node, limit, a, answer, e)
			}
			if x.Lake {
				continue
			}
			most, e := water.MostDraw(n, node, limit)
			if want := modelMost(n, node, limit); want != most && e == api.OK || (want < 0) != (e == api.ErrNone) {
				t.Fatal(n, node, limit, most, want, e)
			}
		}
	}
	if len(got) != 3 {
		t.Error(got)
	}
}

// P2.13.
func TestMoreIsDrawn(t *testing.T) {
	r := random(11)
	for range 1500 {
		n := randomCircuit(r, 1000, 100, 100)
		node := r.IntN(len(n.Nodes))
		if n.Nodes[node].Lake {
			continue
		}
		before, e := water.SteadyOf(n)
		after, f := water.SteadyOf(withMore(n, node, 1+r.IntN(50)))
		if e != f {
			t.Fatal(n, node, e, f)
		}
		for i := range before.Heads {
			if after.Heads[i].Lo > before.Heads[i].Hi {
				t.Fatal(n, node, i, before.Heads, after.Heads)
			}
		}
	}
}
