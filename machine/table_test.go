package machine_test

import (
	"slices"
	"testing"

	"guidevane/api"
	"guidevane/machine"
)

// P5.1, example 1.
func TestAreaOf(t *testing.T) {
	for s, want := range map[string]int{
		example:                                  7600,
		"0 :0,0,0 :1,0,0;1 :0,1,0 :1,1,0":        2,
		"0 :0,0,0 :0,1,0;1 :-1,0,0 :-1,1,0":      2,
		"0 :0,0,9 :100,10,9;1 :0,10,9 :100,30,9": 3000,
		"0 :0,0,0 :100,10,500;1 :0,10,0 :100,30,2000;2 :0,40,0 :100,31,7":                        1000 + 2000 + 3000 + 100,
		"0 :-1000,-1000,0 :1000,-1000,0;20 :-1000,1000,0 :1000,1000,0":                           8000000,
		"0 :-1000,-1000,0 :1000,-1000,0;20 :-1000,1000,-10000 :-999,1000,10000":                  4000000 + 2000,
		"3 :0,0,0 :0,-10,0 :0,-20,0;4 :10,0,0 :10,-10,0 :10,-20,0":                               400,
		"3 :0,0,0 :0,-10,0 :0,-20,0;4 :10,0,0 :10,-10,0 :10,-20,0;5 :11,0,0 :11,-10,0 :11,-20,0": 440,
	} {
		if n, e := machine.AreaOf(parsed(t, s)); n != want || e != api.OK {
			t.Error(s, n, e)
		}
	}
}

// P5.1, example 1.
func TestBoundsOf(t *testing.T) {
	ranges := func(headLo, headHi, flowLo, flowHi, powerLo, powerHi int) [3]api.Range {
		return [3]api.Range{{Lo: headLo, Hi: headHi}, {Lo: flowLo, Hi: flowHi}, {Lo: powerLo, Hi: powerHi}}
	}
	for s, want := range map[string][3]api.Range{
		example:                           ranges(0, 200, 0, 40, 0, 6000),
		"0 :5,6,7 :8,6,7;1 :5,9,7 :8,9,7": ranges(5, 8, 6, 9, 7, 7),
		"0 :-8,-9,-7 :-5,-9,-3;1 :-8,-6,-5 :-5,-6,-6":                           ranges(-8, -5, -9, -6, -7, -3),
		"0 :0,0,0 :0,1,0;1 :-1,0,-3 :-1,1,2":                                    ranges(-1, 0, 0, 1, -3, 2),
		"0 :-1000,-1000,-10000 :1000,-1000,0;20 :-1000,1000,10000 :1000,1000,0": ranges(-1000, 1000, -1000, 1000, -10000, 10000),
		"0 :0,0,0 :10,0,1;1 :0,10,2 :11,12,3;2 :-1,20,4 :13,17,5":               ranges(-1, 13, 0, 20, 0, 5),
	} {
		if b, e := machine.BoundsOf(parsed(t, s)); b != want || e != api.OK {
			t.Error(s, b, e)
		}
	}
}

// P5.1: areas and bounds as the model has them.
func TestTablesAgainstModel(t *testing.T) {
	r := random(3)
	for range 2000 {
		x := someTable(r)
		area := 0
		triangles, _ := modelTriangles(x)
		for _, y := range triangles {
			area += modelArea(y)
		}
		if n, e := machine.AreaOf(x); n != area || e != api.OK {
			t.Fatal(x, n, e, area)
		}
		var heads, flows, powers []int
		for _, row := range x.Rows {
			for _, p := range row.Points {
				heads, flows, powers = append(heads, p.Head), append(flows, p.Flow), append(powers, p.Power)
			}
		}
		var want [3]api.Range
		for i, l := range [][]int{heads, flows, powers} {
			want[i] = api.Range{Lo: slices.Min(l), Hi: slices.Max(l)}
		}
		if b, e := machine.BoundsOf(x); b != want || e != api.OK {
			t.Fatal(x, b, e, want)
		}
	}
}
