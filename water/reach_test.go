package water_test

import (
	"math"
	"slices"
	"testing"

	"guidevane/api"
	"guidevane/water"
)

// P2.3.
func TestReach(t *testing.T) {
	for _, c := range []struct {
		net  string
		node int
		want []int
	}{
		{exampleX, 0, []int{0, 1, 2}}, {exampleX, 2, []int{0, 1, 2}}, {closedX, 0, []int{0, 1}}, {closedX, 1, []int{0, 1}}, {closedX, 2, []int{2}},
		{exampleY, 0, []int{0}}, {exampleY, 1, []int{1, 2}}, {exampleY, 2, []int{1, 2}},
		{"s=0,t+0,u+0,v+0;p 3 2 0 n,q 0 1 0 n", 3, []int{2, 3}}, {"s=0,t+0,u=0;p 0 1 0 c,q 1 0 0 o", 0, []int{0, 1}},
	} {
		if l, e := water.ReachedFrom(parsed(t, c.net), c.node); e != api.OK || !slices.Equal(l, c.want) {
			t.Error(c, l, e)
		}
	}
	for _, node := range []int{-1, 3, math.MinInt, math.MaxInt} {
		if l, e := water.ReachedFrom(parsed(t, exampleX), node); e != api.ErrMissing || len(l) > 0 {
			t.Error(node, l, e)
		}
	}
}

// P2.3.
func TestWet(t *testing.T) {
	for s, want := range map[string][]int{
		exampleX:                                    {0, 1},
		closedX:                                     {0, 1}, // the end of b is a lake
		exampleY:                                    nil,
		"s=0,t+0,u+0;p 1 0 0 c,q 1 2 0 n":           {0},    // the end of p is a lake
		"s=0,t+0,u+0;p 0 1 0 o,q 1 2 0 c":           {0},    // the valve of q is at its wet end
		"s=0,t+0,u+0;p 0 1 0 o,q 2 1 0 c":           {0, 1}, // the valve of q is at its dry end
		"s=0,t+0,u+0;p 0 1 0 n,q 1 2 0 n":           {0, 1},
		"s+0,t+0;p 0 1 0 n":                         nil,
		"s=0,t=0,u+0,v+0;p 2 3 0 n,q 0 1 0 c":       {1},
		"s+0,t+0,u=0;p 1 0 0 o,q 2 1 0 o":           {0, 1},
		"s=0,t+0,u+0;p 0 1 0 o,q 1 2 0 c,r 2 1 0 n": {0, 1, 2},
	} {
		if l, e := water.WetIn(parsed(t, s)); e != api.OK || !slices.Equal(l, want) {
			t.Error(s, l, e)
		}
	}
}

// P2.3.
func TestFilled(t *testing.T) {
	for _, c := range []struct {
		net     string
		conduit int
		want    []int
		e       api.Errno
	}{
		{exampleY, 0, []int{0, 1}, api.OK}, {exampleY, 1, nil, api.ErrNone}, {exampleX, 0, nil, api.ErrNone}, {exampleX, 1, nil, api.OK}, {closedX, 1, nil, api.OK},
		{"s=0,t+0,u+0;p 0 1 0 o,q 1 2 0 n", 0, []int{0, 1}, api.OK}, // it is open already
		{"s=0,t+0,u+0;p 1 0 0 c,q 1 2 0 n", 0, []int{1}, api.OK},    // p is wet from its end
		{"s=0,t+0,u+0;p 0 1 0 c,q 1 2 0 n,r 0 2 0 o", 0, nil, api.OK}, {"s=0,t+0,u+0;p 0 1 0 c,q 1 2 0 n,r 0 2 0 o", 2, []int{1, 2, 0}, api.OK},
		{"s=0,t+0,u+0;p 0 1 0 c,q 1 2 0 c", 1, nil, api.OK}, {"s=0,t+0,u+0;p 0 1 0 c,q 1 2 0 c", 0, []int{0}, api.OK},
		{exampleX, -1, nil, api.ErrMissing}, {exampleX, 2, nil, api.ErrMissing}, {exampleX, math.MinInt, nil, api.ErrMissing}, {exampleX, math.MaxInt, nil, api.ErrMissing},
	} {
		slices.Sort(c.want)
		if l, e := water.FilledBy(parsed(t, c.net), c.conduit); e != c.e || !slices.Equal(l, c.want) {
			t.Error(c, l, e)
		}
	}
}

// P2.3 and P2.12: any net, against what all pairs of nodes tell.
func TestReachOfAnyNet(t *testing.T) {
	r := random(4)
	for range 3000 {
		n := randomNet(r, api.MaxWaterNodes, 2)
		joined := modelReach(n)
		for node := range n.Nodes {
			l, e := water.ReachedFrom(n, node)
			var want []int
			for other, is := range joined[node] {
				if is {
					want = append(want, other)
				}
			}
			if e != api.OK || !slices.Equal(l, want) {
				t.Fatal(n, node, l, want, e)
			}
		}
		if l, e := water.WetIn(n); e != api.OK || !slices.Equal(l, modelWet(n)) {
			t.Fatal(n, l, e)
		}
		for i, c := range n.Conduits {
			l, e := water.FilledBy(n, i)
			if !c.Valve {
				if e != api.ErrNone || len(l) > 0 {
					t.Fatal(n, i, l, e)
				}
				continue
			}
			if e != api.OK || !slices.Equal(l, modelFilled(n, i)) {
				t.Fatal(n, i, l, e)
			}
			wet, _ := water.WetIn(withValve(n, i, false))
			if slices.ContainsFunc(l, func(k int) bool { return slices.Contains(wet, k) }) {
				t.Fatal(n, i, l, wet)
			}
		}
	}
}
