package lake_test

import (
	"math"
	"math/rand/v2"
	"slices"
	"testing"

	"guidevane/api"
	"guidevane/lake"
)

func reading(tick, lo, hi int) api.LakeReading {
	return api.LakeReading{Tick: tick, Level: api.Range{Lo: lo, Hi: hi}}
}

// P1.6.
func TestAgreedOf(t *testing.T) {
	thirds := knots(0, 0, 3, 10)
	greatest := make([]int, api.MaxLakeTicks)
	for i := range greatest {
		greatest[i] = -api.MaxLakeFlow
	}
	down := api.MaxLakeTicks * api.MaxLakeFlow
	cases := []struct {
		name     string
		table    api.LakeTable
		net      []int
		readings []api.LakeReading
		want     api.Range
	}{
		{"example 8", example(), []int{10, 20}, []api.LakeReading{reading(0, 50, 52), reading(2, 54, 55)}, api.Range{Lo: 510, Hi: 520}},
		{"one", example(), nil, []api.LakeReading{reading(0, 50, 52)}, api.Range{Lo: 500, Hi: 520}},
		{"one level", example(), nil, []api.LakeReading{reading(0, 150, 150)}, api.Range{Lo: 2000, Hi: 2000}},
		{"all levels", example(), nil, []api.LakeReading{reading(0, 0, 200)}, api.Range{Hi: 3000}},
		{"rounded inwards", thirds, nil, []api.LakeReading{reading(0, 1, 2)}, api.Range{Lo: 4, Hi: 6}},
		{"knots", knots(5, 7, 8, 17, 9, 27), nil, []api.LakeReading{reading(0, 8, 9)}, api.Range{Lo: 17, Hi: 27}},
		{"flows of the ticks before", example(), []int{1, 10, 100}, []api.LakeReading{reading(2, 100, 200)}, api.Range{Lo: 989, Hi: 2989}},
		{"flows of all ticks", example(), []int{1, 10, 100}, []api.LakeReading{reading(3, 100, 200)}, api.Range{Lo: 889, Hi: 2889}},
		{"below the table", example(), []int{1000}, []api.LakeReading{reading(1, 0, 50)}, api.Range{Lo: -1000, Hi: -500}},
		{"above the table", example(), []int{-1000}, []api.LakeReading{reading(1, 0, 200)}, api.Range{Lo: 1000, Hi: 4000}},
		{"outside of the table in between", example(), []int{5000, -5000}, []api.LakeReading{reading(2, 50, 60)}, api.Range{Lo: 500, Hi: 600}},
		{"greatest flows", example(), greatest, []api.LakeReading{reading(api.MaxLakeTicks, 0, 200)}, api.Range{Lo: down, Hi: down + 3000}},
		{"at one volume", example(), []int{20}, []api.LakeReading{reading(0, 50, 52), reading(1, 54, 60)}, api.Range{Lo: 520, Hi: 520}},
		{"in any order", example(), []int{10, 20}, []api.LakeReading{reading(2, 54, 55), reading(0, 50, 52)}, api.Range{Lo: 510, Hi: 520}},
	}
	for _, c := range cases {
		if r, e := lake.AgreedOf(c.table, c.net, c.readings); e != api.OK || r != c.want {
			t.Error(c.name, r, e)
		}
		if l, e := lake.Contradicting(c.table, c.net, c.readings); e != api.ErrNone || len(l) != 0 {
			t.Error(c.name, l, e)
		}
	}
}

// P1.6.
func TestContradicting(t *testing.T) {
	thirds := knots(0, 0, 3, 10)
	cases := []struct {
		name     string
		table    api.LakeTable
		net      []int
		readings []api.LakeReading
		want     []int
	}{
		{"example 8", example(), []int{10, 20}, []api.LakeReading{reading(0, 50, 52), reading(2, 54, 55), reading(1, 60, 61)}, []int{0, 2}},
		{"by one volume", example(), []int{21}, []api.LakeReading{reading(0, 50, 52), reading(1, 54, 54), reading(1, 54, 60), reading(0, 52, 52)}, []int{1, 3}},
		{"no whole volume", thirds, nil, []api.LakeReading{reading(0, 1, 1)}, []int{0}},
		{"no whole volume, in the middle", thirds, nil, []api.LakeReading{reading(0, 0, 3), reading(0, 2, 2), reading(0, 1, 1)}, []int{1}},
		{"one before two", thirds, nil, []api.LakeReading{reading(0, 0, 0), reading(0, 3, 3), reading(0, 1, 1)}, []int{2}},
		{"first pair", example(), nil, []api.LakeReading{reading(0, 20, 60), reading(0, 10, 30), reading(0, 40, 50), reading(0, 70, 80)}, []int{0, 3}},
		{"first pair without the first one", example(), nil, []api.LakeReading{reading(0, 0, 100), reading(0, 10, 30), reading(0, 10, 40), reading(0, 41, 50)}, []int{1, 3}},
		{"the same reading with other flows", example(), []int{1}, []api.LakeReading{reading(0, 50, 50), reading(1, 50, 50)}, []int{0, 1}},
	}
	for _, c := range cases {
		if l, e := lake.Contradicting(c.table, c.net, c.readings); e != api.OK || !slices.Equal(l, c.want) {
			t.Error(c.name, l, e)
		}
		if r, e := lake.AgreedOf(c.table, c.net, c.readings); e != api.ErrClash || r != (api.Range{}) {
			t.Error(c.name, r, e)
		}
	}
	overlap := []api.LakeReading{reading(0, 50, 52)}
	if l, e := lake.Contradicting(example(), []int{20}, append(overlap, reading(1, 54, 60))); e != api.ErrNone || len(l) != 0 {
		t.Error("ends that meet", l, e)
	}
}

// P1.6.
func TestReadingErrors(t *testing.T) {
	try := func(name string, x api.LakeTable, net []int, l []api.LakeReading, want api.Errno) {
		if r, e := lake.AgreedOf(x, net, l); e != want || r != (api.Range{}) {
			t.Error(name, r, e)
		}
		if s, e := lake.Contradicting(x, net, l); e != want || len(s) != 0 {
			t.Error(name, s, e)
		}
	}
	raised := knots(10, 0, 20, 100)
	longNet := make([]int, api.MaxLakeTicks+1)
	longNet[0] = math.MinInt
	good := reading(0, 10, 20)
	long := slices.Repeat([]api.LakeReading{good}, api.MaxLakeReadings+1)
	long[0].Tick = -1
	for _, c := range badTables {
		try(c.name, c.table, longNet, nil, c.want)
	}
	try("too many net flows", raised, longNet, nil, api.ErrLarge)
	for _, flow := range []int{-api.MaxLakeFlow - 1, api.MaxLakeFlow + 1, math.MinInt, math.MaxInt} {
		try("net flow", raised, []int{0, flow}, nil, api.ErrRange)
		try("net flow after all readings", raised, []int{0, flow}, []api.LakeReading{good}, api.ErrRange)
		try("net flow before readings", raised, []int{flow}, long, api.ErrRange)
	}
	try("no readings", raised, []int{0}, nil, api.ErrShape)
	try("too many readings", raised, []int{0}, long, api.ErrLarge)
	for _, l := range []api.LakeReading{
		reading(-1, 10, 20), reading(4, 10, 20), reading(math.MinInt, 10, 20), reading(math.MaxInt, 10, 20),
		reading(0, 9, 20), reading(0, 21, 20), reading(0, 10, 21), reading(0, 10, 9), reading(0, math.MinInt, math.MaxInt),
		reading(-1, 20, 10), reading(4, 20, 10), reading(0, 20, 9), reading(0, 21, 10),
	} {
		try("reading", raised, []int{0, 0, 0}, []api.LakeReading{good, l}, api.ErrRange)
		try("reading before contradictions", raised, []int{0, 0, 0}, []api.LakeReading{reading(0, 10, 10), reading(0, 20, 20), l}, api.ErrRange)
	}
	try("order", raised, nil, []api.LakeReading{good, reading(0, 20, 10)}, api.ErrOrder)
	try("order of the first before the range of the second", raised, nil, []api.LakeReading{reading(0, 20, 10), reading(-1, 10, 20)}, api.ErrOrder)
	try("range of the first before the order of the second", raised, nil, []api.LakeReading{reading(1, 10, 20), reading(0, 20, 10)}, api.ErrRange)
	most := slices.Repeat([]api.LakeReading{good}, api.MaxLakeReadings)
	if r, e := lake.AgreedOf(raised, make([]int, api.MaxLakeTicks), most); e != api.OK || r != (api.Range{Hi: 100}) {
		t.Error("as many as are permitted", r, e)
	}
}

// randomReadings returns readings near one another.
func randomReadings(r *rand.Rand, x api.LakeTable, ticks int) []api.LakeReading {
	bottom, top := ends(x)
	middle := between(r, bottom.Level, top.Level)
	var l []api.LakeReading
	for range 1 + r.IntN(5) {
		lo := max(bottom.Level, middle-r.IntN(4)+r.IntN(2))
		hi := min(top.Level, max(lo, middle+r.IntN(4)-r.IntN(2)))
		l = append(l, reading(r.IntN(ticks+1), min(lo, hi), hi))
	}
	return l
}

// modelSet returns the first set of readings of minimum size that permit no volume in common, by trying all sets, given what each reading permits.
func modelSet(permits [][]bool) []int {
	var found []int
	for set := 1; set < 1<<len(permits); set++ {
		var l []int
		common := slices.Repeat([]bool{true}, len(permits[0]))
		for i := range permits {
			if set>>i&1 == 1 {
				l = append(l, i)
				for v := range common {
					common[v] = common[v] && permits[i][v]
				}
			}
		}
		less := found == nil || len(l) < len(found) || len(l) == len(found) && slices.Compare(l, found) < 0
		if !slices.Contains(common, true) && less {
			found = l
		}
	}
	return found
}

// P1.6.
func TestReadingsAsModel(t *testing.T) {
	r := random(12)
	clashes := 0
	for range 300 {
		x := randomTable(r, 3)
		var net []int
		for range r.IntN(4) {
			net = append(net, between(r, -3, 3))
		}
		l := randomReadings(r, x, len(net))
		bottom, top := ends(x)
		from := bottom.Volume - 10
		permits := make([][]bool, len(l))
		agreed := api.Range{Lo: math.MaxInt}
		for v := from; v <= top.Volume+10; v++ {
			all := true
			for i := range l {
				p := modelPermits(x, net, l[i], v)
				permits[i] = append(permits[i], p)
				all = all && p
			}
			if all {
				agreed = api.Range{Lo: min(agreed.Lo, v), Hi: v}
			}
		}
		set := modelSet(permits)
		got, e := lake.AgreedOf(x, net, l)
		contradicting, ce := lake.Contradicting(x, net, l)
		if set == nil && (e != api.OK || got != agreed || ce != api.ErrNone || len(contradicting) != 0) {
			t.Fatal(x, net, l, got, e, contradicting, ce)
		}
		if set != nil && (e != api.ErrClash || ce != api.OK || !slices.Equal(contradicting, set)) {
			t.Fatal(x, net, l, got, e, contradicting, ce, set)
		}
		if set != nil {
			clashes++
		}
	}
	if clashes < 50 || clashes > 250 {
		t.Error("one-sided:", clashes)
	}
}

// P1.12.
func TestTwoReadings(t *testing.T) {
	r := random(13)
	for range 1000 {
		x := randomTable(r, 4)
		l := randomReadings(r, x, 0)
		set, e := lake.Contradicting(x, nil, l)
		if e == api.OK && (len(set) < 1 || len(set) > 2 || !slices.IsSorted(set)) {
			t.Fatal(x, l, set)
		}
		all, e := lake.AgreedOf(x, nil, l)
		if e != api.OK {
			continue
		}
		for n := 1; n < len(l); n++ {
			fewer, e := lake.AgreedOf(x, nil, l[:n])
			if e != api.OK || fewer.Lo > all.Lo || fewer.Hi < all.Hi {
				t.Fatal(x, l, n, all, fewer, e)
			}
		}
	}
}
