package water_test

import (
	"math"
	"slices"
	"testing"

	"guidevane/api"
	"guidevane/water"
)

// P2.2.
func TestLossOf(t *testing.T) {
	for _, c := range []struct {
		resist, flow, want int
		e                  api.Errno
	}{
		{100, -20, -40000, api.OK}, {100, 20, 40000, api.OK}, {7, 1, 7, api.OK}, {7, -1, -7, api.OK}, {0, 5, 0, api.OK}, {0, -5, 0, api.OK}, {5, 0, 0, api.OK},
		{1000, 200000, 40000000000000, api.OK}, {1000, -200000, -40000000000000, api.OK},
		{-1, 0, 0, api.ErrRange}, {1001, 0, 0, api.ErrRange}, {math.MinInt, 0, 0, api.ErrRange}, {math.MaxInt, 0, 0, api.ErrRange},
		{0, 200001, 0, api.ErrRange}, {0, -200001, 0, api.ErrRange}, {0, math.MinInt, 0, api.ErrRange}, {0, math.MaxInt, 0, api.ErrRange},
	} {
		if x, e := water.LossOf(c.resist, c.flow); x != c.want || e != c.e {
			t.Error(c, x, e)
		}
	}
}

// P2.2.
func TestFlowThrough(t *testing.T) {
	for _, c := range []struct {
		resist, drop int
		want         api.Range
		e            api.Errno
	}{
		{100, 40000, api.Range{Lo: 20, Hi: 20}, api.OK}, {100, 41000, api.Range{Lo: 20, Hi: 21}, api.OK}, {100, 39999, api.Range{Lo: 19, Hi: 20}, api.OK}, {100, 40001, api.Range{Lo: 20, Hi: 21}, api.OK},
		{1, 0, api.Range{}, api.OK}, {1000, 0, api.Range{}, api.OK}, {1000, 1, api.Range{Hi: 1}, api.OK}, {1000, 999, api.Range{Hi: 1}, api.OK}, {1000, 1000, api.Range{Lo: 1, Hi: 1}, api.OK},
		{1, 1, api.Range{Lo: 1, Hi: 1}, api.OK}, {1, 2, api.Range{Lo: 1, Hi: 2}, api.OK}, {3, 4, api.Range{Lo: 1, Hi: 2}, api.OK}, {3, 13, api.Range{Lo: 2, Hi: 3}, api.OK},
		{1, 1000000000, api.Range{Lo: 31622, Hi: 31623}, api.OK}, {1000, 1000000000, api.Range{Lo: 1000, Hi: 1000}, api.OK}, {1, 999950884, api.Range{Lo: 31622, Hi: 31622}, api.OK},
		{0, 0, api.Range{}, api.ErrRange}, {-1, 0, api.Range{}, api.ErrRange}, {1001, 0, api.Range{}, api.ErrRange}, {math.MaxInt, 0, api.Range{}, api.ErrRange},
		{1, -1, api.Range{}, api.ErrRange}, {1, 1000000001, api.Range{}, api.ErrRange}, {1, math.MinInt, api.Range{}, api.ErrRange}, {1, math.MaxInt, api.Range{}, api.ErrRange},
	} {
		if x, e := water.FlowThrough(c.resist, c.drop); x != c.want || e != c.e {
			t.Error(c, x, e)
		}
	}
}

// badResists is coefficients for each of their errors, and for each order of two errors.
var badResists = []struct {
	resists []int
	want    api.Errno
}{
	{nil, api.ErrShape}, {[]int{}, api.ErrShape}, {[]int{1, 1, 1, 1, 1, 1, 1, 1, 1}, api.ErrLarge}, {[]int{0, 1, 1, 1, 1, 1, 1, 1, 1}, api.ErrLarge},
	{[]int{0}, api.ErrRange}, {[]int{-1}, api.ErrRange}, {[]int{1001}, api.ErrRange}, {[]int{1, 1, 1, 1, 1, 1, 1, 0}, api.ErrRange}, {[]int{5, 1001, 5}, api.ErrRange},
	{[]int{math.MinInt}, api.ErrRange}, {[]int{math.MaxInt}, api.ErrRange},
}

// P2.2.
func TestBadResists(t *testing.T) {
	for _, c := range badResists {
		for _, other := range []int{0, -1, math.MaxInt} {
			if x, e := water.SerialOf(c.resists); x != 0 || e != c.want {
				t.Error(c, x, e)
			}
			if x, e := water.ParallelOf(c.resists, other); x != (api.Range{}) || e != c.want {
				t.Error(c, x, e)
			}
			if x, e := water.DropFor(c.resists, other); x != (api.Range{}) || e != c.want {
				t.Error(c, x, e)
			}
		}
	}
	good := []int{1, 1000}
	for _, drop := range []int{-1, 1000000001, math.MinInt, math.MaxInt} {
		if x, e := water.ParallelOf(good, drop); x != (api.Range{}) || e != api.ErrRange {
			t.Error(drop, x, e)
		}
	}
	for _, flow := range []int{-1, 10001, math.MinInt, math.MaxInt} {
		if x, e := water.DropFor(good, flow); x != (api.Range{}) || e != api.ErrRange {
			t.Error(flow, x, e)
		}
	}
}

// P2.2.
func TestSerialOf(t *testing.T) {
	for _, c := range []struct {
		want    int
		resists []int
	}{{500, []int{100, 400}}, {1, []int{1}}, {1000, []int{1000}}, {8000, []int{1000, 1000, 1000, 1000, 1000, 1000, 1000, 1000}}, {36, []int{1, 2, 3, 4, 5, 6, 7, 8}}} {
		if x, e := water.SerialOf(c.resists); x != c.want || e != api.OK {
			t.Error(c, x, e)
		}
	}
}

// P2.2.
func TestParallelOf(t *testing.T) {
	for _, c := range []struct {
		resists []int
		drop    int
		want    api.Range
	}{
		{[]int{100, 400}, 40000, api.Range{Lo: 30, Hi: 30}}, {[]int{100, 400}, 41000, api.Range{Lo: 30, Hi: 32}}, {[]int{100, 400}, 36100, api.Range{Lo: 28, Hi: 29}},
		{[]int{100, 400}, 0, api.Range{}}, {[]int{100}, 41000, api.Range{Lo: 20, Hi: 21}}, {[]int{2, 2, 2}, 3, api.Range{Lo: 3, Hi: 6}},
		{[]int{1, 1, 1, 1, 1, 1, 1, 1}, 1000000000, api.Range{Lo: 252976, Hi: 252984}},
	} {
		if x, e := water.ParallelOf(c.resists, c.drop); x != c.want || e != api.OK {
			t.Error(c, x, e)
		}
	}
}

// P2.2.
func TestDropFor(t *testing.T) {
	for _, c := range []struct {
		resists []int
		flow    int
		want    api.Range
		e       api.Errno
	}{
		{[]int{100, 400}, 30, api.Range{Lo: 36101, Hi: 40000}, api.OK}, {[]int{100, 400}, 0, api.Range{}, api.OK}, {[]int{100, 400}, 1, api.Range{Lo: 1, Hi: 100}, api.OK},
		{[]int{100, 400}, 2, api.Range{Lo: 1, Hi: 400}, api.OK}, {[]int{100}, 20, api.Range{Lo: 36101, Hi: 40000}, api.OK}, {[]int{1}, 1, api.Range{Lo: 1, Hi: 1}, api.OK},
		{[]int{1}, 10000, api.Range{Lo: 99980002, Hi: 100000000}, api.OK}, {[]int{10}, 10000, api.Range{Lo: 999800011, Hi: 1000000000}, api.OK},
		{[]int{11}, 10000, api.Range{}, api.ErrNone}, {[]int{1000}, 1000, api.Range{Lo: 998001001, Hi: 1000000000}, api.OK}, {[]int{1000}, 1001, api.Range{}, api.ErrNone}, {[]int{1000}, 10000, api.Range{}, api.ErrNone},
		{[]int{999}, 1001, api.Range{}, api.ErrNone}, {[]int{1000, 1000}, 2001, api.Range{}, api.ErrNone}, {[]int{999, 999}, 2001, api.Range{}, api.ErrNone},
	} {
		if x, e := water.DropFor(c.resists, c.flow); x != c.want || e != c.e {
			t.Error(c, x, e)
		}
	}
}

func randomResists(r interface{ IntN(int) int }, most int) []int {
	l := make([]int, 1+r.IntN(api.MaxWaterParallel))
	for i := range l {
		l[i] = 1 + r.IntN(most)
	}
	return l
}

// P2.2: the drop for a flow is found by trying all drops.
func TestDropForAgainstAllDrops(t *testing.T) {
	r := random(2)
	for range 300 {
		resists := randomResists(r, 20)
		flow := r.IntN(6 * len(resists))
		want := api.Range{Lo: -1, Hi: -1}
		for drop := 0; want.Hi < 0; drop++ {
			x, _ := water.ParallelOf(resists, drop)
			if want.Lo < 0 && x.Hi >= flow {
				want.Lo = drop
			}
			if x.Lo >= flow {
				want.Hi = drop
			}
		}
		if x, e := water.DropFor(resists, flow); x != want || e != api.OK {
			t.Fatal(resists, flow, x, want, e)
		}
	}
}

// P2.11.
func TestParallelGrows(t *testing.T) {
	r := random(3)
	for range 5000 {
		resists := randomResists(r, api.MaxWaterResist)
		drop := r.IntN(api.MaxWaterDrop)
		if r.IntN(2) == 0 {
			drop = r.IntN(10000)
		}
		x, e := water.ParallelOf(resists, drop)
		y, f := water.ParallelOf(resists, drop+r.IntN(api.MaxWaterDrop-drop+1))
		if e != api.OK || f != api.OK || x.Lo > y.Lo || x.Hi > y.Hi {
			t.Fatal(resists, drop, x, y)
		}
		if len(resists) < api.MaxWaterParallel {
			y, e = water.ParallelOf(append(slices.Clone(resists), 1+r.IntN(api.MaxWaterResist)), drop)
			if e != api.OK || x.Lo > y.Lo || x.Hi > y.Hi {
				t.Fatal(resists, drop, x, y)
			}
		}
		z, e := water.FlowThrough(resists[0], drop)
		lo, _ := water.LossOf(resists[0], z.Lo)
		hi, _ := water.LossOf(resists[0], z.Hi)
		if e != api.OK || lo > drop || hi < drop || z.Hi-z.Lo > 1 || (z.Hi > z.Lo) == (lo == drop) {
			t.Fatal(resists[0], drop, z)
		}
	}
}
