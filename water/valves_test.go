package water_test

import (
	"math"
	"slices"
	"testing"

	"guidevane/api"
	"guidevane/water"
)

// twice is two paths that need the middle conduit in opposite directions, if they are found without care.
const twice = "s=0,a+0,b+0,t=0;p 0 1 0 o,q 1 2 0 o,r 2 3 0 o,u 0 2 0 o,v 1 3 0 o"

// P2.4.
func TestCutOf(t *testing.T) {
	for _, c := range []struct {
		net  string
		way  api.WaterWay
		want []int
		e    api.Errno
	}{
		{exampleX, way(0, 2), []int{1}, api.OK}, {exampleX, way(2, 0), []int{1}, api.OK}, {exampleX, way(1, 2), []int{1}, api.OK}, {exampleX, way(0, 1), nil, api.ErrNone}, {exampleX, way(1, 0), nil, api.ErrNone},
		{closedX, way(0, 2), nil, api.OK}, {closedX, way(0, 1), nil, api.ErrNone}, {exampleY, way(0, 2), nil, api.OK},
		{twice, way(0, 3), []int{0, 3}, api.OK}, {twice, way(3, 0), []int{0, 3}, api.OK}, {twice, way(1, 2), []int{0, 1, 2}, api.OK},
		{"s=0,a+0,t=0;p 1 2 0 o,q 0 1 0 o", way(0, 2), []int{0}, api.OK},
		{"s=0,a+0,t=0;p 0 1 0 o,q 0 1 0 o,r 1 2 0 o", way(0, 2), []int{2}, api.OK},                            // the smaller one, not the first one
		{"s=0,a+0,t=0;p 0 1 0 n,q 1 2 0 o,r 0 1 0 o", way(0, 2), []int{1}, api.OK},                            // r does not help
		{"s=0,a+0,b+0,t=0;p 0 1 0 o,q 1 3 0 n,r 2 3 0 o,u 0 2 0 o", way(0, 3), []int{0, 2}, api.OK},           // r and u are as good, r comes first
		{"s=0,a+0,b+0,t=0;p 0 1 0 o,q 1 2 0 n,r 2 3 0 o,u 0 1 0 o,v 2 3 0 o", way(0, 3), []int{0, 3}, api.OK}, // not 0 and 2
		{"s=0,t=0;a 0 1 0 o,b 1 0 0 o,c 0 1 0 c,d 1 0 0 o", way(1, 0), []int{0, 1, 3}, api.OK},
		{exampleX, way(-1, 0), nil, api.ErrMissing}, {exampleX, way(0, -1), nil, api.ErrMissing}, {exampleX, way(3, 0), nil, api.ErrMissing}, {exampleX, way(0, 3), nil, api.ErrMissing},
		{exampleX, way(math.MinInt, 0), nil, api.ErrMissing}, {exampleX, way(0, math.MaxInt), nil, api.ErrMissing}, {exampleX, way(7, 7), nil, api.ErrMissing}, {exampleX, way(-1, -1), nil, api.ErrMissing},
		{exampleX, way(0, 0), nil, api.ErrClash}, {exampleX, way(2, 2), nil, api.ErrClash},
	} {
		n := parsed(t, c.net)
		if l, e := water.CutOf(n, c.way); e != c.e || !slices.Equal(l, c.want) {
			t.Error(c, l, e)
		}
		paths, e := water.PathsOf(n, c.way)
		if e != c.e || len(paths) != len(c.want) {
			t.Error(c, paths, e)
		}
		if c.e == api.OK {
			if k, e := water.CheckPaths(n, c.way, paths); e != api.OK || k != len(c.want) {
				t.Error(c, paths, k, e)
			}
		}
	}
	paths, e := water.PathsOf(parsed(t, exampleX), way(0, 2))
	if e != api.OK || len(paths) != 1 || !slices.Equal(paths[0], []int{0, 1}) {
		t.Error(paths, e)
	}
}

// P2.4.
func TestCheckPaths(t *testing.T) {
	const ring = "s=0,a+0,b+0,t=0;p 0 1 0 o,q 1 2 0 n,r 2 3 0 o,u 0 1 0 o,v 2 3 0 o,w 2 0 0 c,x 3 2 0 n"
	many := func(n int, path ...int) [][]int {
		var l [][]int
		for range n {
			l = append(l, path)
		}
		return l
	}
	for _, c := range []struct {
		name  string
		paths [][]int
		want  int
		e     api.Errno
	}{
		{"none", nil, 0, api.OK},
		{"one", [][]int{{0, 1, 2}}, 1, api.OK},
		{"two that share a conduit without a valve", [][]int{{0, 1, 2}, {3, 1, 4}}, 2, api.OK},
		{"one that goes on behind its end", [][]int{{0, 1, 2, 4, 6}}, 1, api.OK},
		{"one that comes back to its beginning", [][]int{{0, 3, 0}}, 0, api.ErrDouble},
		{"no conduits", [][]int{{}}, 0, api.ErrShape},
		{"no conduits later", [][]int{{0, 1, 2}, nil}, 1, api.ErrShape},
		{"missing", [][]int{{7}}, 0, api.ErrMissing},
		{"missing below 0", [][]int{{0, 1, -1}}, 0, api.ErrMissing},
		{"missing far away", [][]int{{0, 1, 2}, {math.MinInt}, {math.MaxInt}}, 1, api.ErrMissing},
		{"twice", [][]int{{0, 0}}, 0, api.ErrDouble},
		{"twice, not one after the other", [][]int{{0, 1, 0}}, 0, api.ErrDouble},
		{"closed", [][]int{{5}}, 0, api.ErrBreak},
		{"closed before gap", [][]int{{0, 5}}, 0, api.ErrBreak},
		{"wrong beginning", [][]int{{1}}, 0, api.ErrGap},
		{"from the end", [][]int{{2, 1, 0}}, 0, api.ErrGap},
		{"does not continue", [][]int{{0, 2}}, 0, api.ErrGap},
		{"does not turn", [][]int{{0, 1, 1}}, 0, api.ErrDouble},
		{"gap before a missing one", [][]int{{0, 2, 7}}, 0, api.ErrGap},
		{"missing before a wrong end", [][]int{{0, 7}}, 0, api.ErrMissing},
		{"wrong end", [][]int{{0, 1}}, 0, api.ErrGap},
		{"wrong end later", [][]int{{0, 1, 2}, {3}}, 1, api.ErrGap},
		{"behind its end", [][]int{{0, 1, 2, 4}}, 0, api.ErrGap},
		{"shares a valve", [][]int{{0, 1, 2}, {0, 1, 4}}, 1, api.ErrClash},
		{"shares the last valve", [][]int{{0, 1, 2}, {3, 1, 2}}, 1, api.ErrClash},
		{"shares a valve with one before the last one", [][]int{{0, 1, 2}, {3, 1, 6}, {0, 1, 6}}, 2, api.ErrClash},
		{"wrong end before clash", [][]int{{0, 1, 2}, {0}}, 1, api.ErrGap},
		{"the same way twice", many(2, 0, 1, 2), 1, api.ErrClash},
		{"too many", many(15, 0, 1, 2), 0, api.ErrLarge},
		{"too many without conduits", make([][]int, 15), 0, api.ErrLarge},
		{"as many as possible without conduits", make([][]int, 14), 0, api.ErrShape},
		{"clash before a later path", [][]int{{0, 1, 2}, {0, 1, 4}, {}}, 1, api.ErrClash},
	} {
		if k, e := water.CheckPaths(parsed(t, ring), way(0, 3), c.paths); k != c.want || e != c.e {
			t.Error(c.name, k, e)
		}
	}
	n := parsed(t, exampleX)
	if k, e := water.CheckPaths(n, way(0, 1), many(14, 0)); k != 14 || e != api.OK { // no valve, and no cut
		t.Error(k, e)
	}
	if k, e := water.CheckPaths(n, way(0, 1), many(15, 0)); k != 0 || e != api.ErrLarge {
		t.Error(k, e)
	}
	for w, want := range map[api.WaterWay]api.Errno{way(3, 3): api.ErrMissing, way(-1, 0): api.ErrMissing, way(0, 3): api.ErrMissing, way(1, 1): api.ErrClash} {
		if k, e := water.CheckPaths(n, w, make([][]int, 15)); k != 0 || e != want {
			t.Error(w, k, e)
		}
	}
}

// P2.4: a path may pass its ends, and a node more than once.
func TestPathsThroughANodeTwice(t *testing.T) {
	n := parsed(t, "s=0,a+0,t=0;p 0 1 0 n,q 1 0 0 n,r 0 2 0 n,u 2 1 0 o,v 1 2 0 o")
	for _, path := range [][]int{{2}, {0, 1, 2}, {1, 0, 2}, {2, 3, 4}, {0, 3, 2, 1, 4}} {
		if k, e := water.CheckPaths(n, way(0, 2), [][]int{path}); k != 1 || e != api.OK {
			t.Error(path, k, e)
		}
	}
}

// P2.4 and P2.12: any net, against all sets of valves.
func TestCutsOfAnyNet(t *testing.T) {
	r := random(5)
	sizes := map[int]int{}
	for range 500 {
		n := randomNet(r, 6, 8)
		w := way(0, 1)
		want, ok := modelCut(n, w)
		cut, e := water.CutOf(n, w)
		paths, f := water.PathsOf(n, w)
		if !ok {
			if e != api.ErrNone || f != api.ErrNone || len(cut) > 0 || len(paths) > 0 {
				t.Fatal(n, cut, paths, e, f)
			}
			continue
		}
		sizes[len(want)]++
		if e != api.OK || f != api.OK || !slices.Equal(cut, want) {
			t.Fatal(n, cut, want, e, f)
		}
		if k, e := water.CheckPaths(n, w, paths); k != len(cut) || e != api.OK {
			t.Fatal(n, paths, k, e)
		}
		for _, i := range cut {
			n = withValve(n, i, false)
		}
		if l, e := water.ReachedFrom(n, w.From); e != api.OK || slices.Contains(l, w.To) {
			t.Fatal(n, cut, l, e)
		}
	}
	for size := range 4 {
		if sizes[size] == 0 {
			t.Error("no cut of the size", size, sizes)
		}
	}
}

// P2.4: the greatest cut, and all paths at once.
func TestAllConduitsAreCut(t *testing.T) {
	n := parsed(t, "s=0,t=0;a 0 1 0 o,b 1 0 0 o,c 0 1 0 o,d 0 1 0 o,e 0 1 0 o,f 1 0 0 o,g 0 1 0 o,h 0 1 0 o,i 0 1 0 o,j 0 1 0 o,k 0 1 0 o,l 0 1 0 o,m 0 1 0 o,n 0 1 0 o")
	cut, e := water.CutOf(n, way(0, 1))
	if e != api.OK || !slices.Equal(cut, []int{0, 1, 2, 3, 4, 5, 6, 7, 8, 9, 10, 11, 12, 13}) {
		t.Error(cut, e)
	}
	paths, e := water.PathsOf(n, way(0, 1))
	if k, f := water.CheckPaths(n, way(0, 1), paths); e != api.OK || f != api.OK || k != api.MaxWaterPaths {
		t.Error(paths, e, k, f)
	}
}
