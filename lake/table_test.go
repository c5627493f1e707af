package lake_test

import (
	"math"
	"testing"

	"guidevane/api"
	"guidevane/lake"
)

// badTables is a table for each error of CheckTable, and for each order of two errors.
var badTables = []struct {
	name  string
	table api.LakeTable
	index int
	want  api.Errno
}{
	{"no knots", knots(), 0, api.ErrShape},
	{"one knot", knots(1, 1), 0, api.ErrShape},
	{"one knot, out of range", knots(-1, 1), 0, api.ErrShape},
	{"11 knots", knots(0, 0, 1, 1, 2, 2, 3, 3, 4, 4, 5, 5, 6, 6, 7, 7, 8, 8, 9, 9, 10, 10), 0, api.ErrLarge},
	{"11 knots, one out of range", knots(0, 0, -1, 1, 2, 2, 3, 3, 4, 4, 5, 5, 6, 6, 7, 7, 8, 8, 9, 9, 10, 10), 0, api.ErrLarge},
	{"level too low", knots(-1, 0, 5, 5), 0, api.ErrRange},
	{"least level", knots(math.MinInt, 0, 5, 5), 0, api.ErrRange},
	{"level too high", knots(0, 0, api.MaxLakeLevel+1, 5), 1, api.ErrRange},
	{"greatest level", knots(0, 0, math.MaxInt, 5), 1, api.ErrRange},
	{"volume too low", knots(0, -1, 5, 5), 0, api.ErrRange},
	{"least volume", knots(0, 0, 5, math.MinInt), 1, api.ErrRange},
	{"volume too high", knots(0, 0, 5, api.MaxLakeVolume+1), 1, api.ErrRange},
	{"greatest volume", knots(0, 0, 5, 5, 6, math.MaxInt), 2, api.ErrRange},
	{"range before order", knots(5, 5, -1, 6), 1, api.ErrRange},
	{"equal levels", knots(0, 0, 5, 5, 5, 20), 2, api.ErrOrder},
	{"equal levels at the beginning", knots(5, 0, 5, 5), 1, api.ErrOrder},
	{"lower level", knots(6, 0, 5, 5), 1, api.ErrOrder},
	{"equal volumes", knots(0, 0, 5, 5, 6, 5), 2, api.ErrOrder},
	{"lower volume", knots(0, 6, 5, 5), 1, api.ErrOrder},
	{"both lower", knots(6, 6, 5, 5), 1, api.ErrOrder},
	{"order of a knot before the range of a later one", knots(5, 5, 5, 6, -1, 7), 1, api.ErrOrder},
	{"smaller area", knots(0, 0, 100, 1000, 200, 1900), 2, api.ErrBreak},
	{"area smaller by less than 1", knots(0, 0, 3, 10, 5, 16), 2, api.ErrBreak},
	{"area smaller by the least part", knots(0, 0, 499999, 499999999, 999999, 999999998), 2, api.ErrBreak},
	{"area smaller than that of the piece before alone", knots(0, 0, 1, 1, 2, 9, 3, 12), 3, api.ErrBreak},
	{"area of a knot before the range of a later one", knots(0, 0, 1, 5, 2, 6, 3, -1), 2, api.ErrBreak},
}

// P1.1.
func TestCheckTable(t *testing.T) {
	for _, c := range badTables {
		if i, e := lake.CheckTable(c.table); i != c.index || e != c.want {
			t.Error(c.name, i, e)
		}
	}
	good := []api.LakeTable{
		example(),
		wideTable(),
		knots(0, 0, api.MaxLakeLevel, api.MaxLakeVolume),
		knots(5, 7, 6, 8),
		knots(0, 0, 2, 5, 6, 15),
		knots(0, 0, 2, 1, 4, 2, 5, 1000),
		knots(0, 0, 1, 1, 2, 2, 3, 3, 4, 4, 5, 5, 6, 6, 7, 7, 8, 8, 9, 9),
	}
	for _, x := range good {
		if i, e := lake.CheckTable(x); i != 0 || e != api.OK {
			t.Error(x, i, e)
		}
	}
}

// P1.1.
func TestValuesOfBadTables(t *testing.T) {
	for _, c := range badTables {
		if v, e := lake.VolumeAt(c.table, -5); e != c.want || v != (api.Range{}) {
			t.Error(c.name, v, e)
		}
		if v, e := lake.LevelAt(c.table, -5); e != c.want || v != (api.Range{}) {
			t.Error(c.name, v, e)
		}
		if a, e := lake.AreaAt(c.table, -5); e != c.want || a != (api.Frac{}) {
			t.Error(c.name, a, e)
		}
	}
}

// P1.1.
func TestVolumeAt(t *testing.T) {
	uneven := knots(50, 7, 53, 17, 55, 24)
	cases := []struct {
		table api.LakeTable
		level int
		want  api.Range
	}{
		{example(), 150, api.Range{Lo: 2000, Hi: 2000}},
		{example(), 0, api.Range{}},
		{example(), 100, api.Range{Lo: 1000, Hi: 1000}},
		{example(), 101, api.Range{Lo: 1020, Hi: 1020}},
		{example(), 200, api.Range{Lo: 3000, Hi: 3000}},
		{uneven, 50, api.Range{Lo: 7, Hi: 7}},
		{uneven, 51, api.Range{Lo: 10, Hi: 11}},
		{uneven, 52, api.Range{Lo: 13, Hi: 14}},
		{uneven, 53, api.Range{Lo: 17, Hi: 17}},
		{uneven, 54, api.Range{Lo: 20, Hi: 21}},
		{uneven, 55, api.Range{Lo: 24, Hi: 24}},
	}
	for _, c := range cases {
		if v, e := lake.VolumeAt(c.table, c.level); e != api.OK || v != c.want {
			t.Error(c, v, e)
		}
	}
	for _, level := range []int{49, 56, 0, -1, math.MinInt, math.MaxInt} {
		if v, e := lake.VolumeAt(uneven, level); e != api.ErrRange || v != (api.Range{}) {
			t.Error(level, v, e)
		}
	}
}

// P1.1.
func TestLevelAt(t *testing.T) {
	uneven := knots(50, 7, 53, 17, 55, 24)
	cases := []struct {
		table  api.LakeTable
		volume int
		want   api.Range
	}{
		{example(), 1500, api.Range{Lo: 125, Hi: 125}},
		{example(), 1501, api.Range{Lo: 125, Hi: 126}},
		{example(), 1519, api.Range{Lo: 125, Hi: 126}},
		{example(), 0, api.Range{}},
		{example(), 1000, api.Range{Lo: 100, Hi: 100}},
		{example(), 1001, api.Range{Lo: 100, Hi: 101}},
		{example(), 3000, api.Range{Lo: 200, Hi: 200}},
		{uneven, 7, api.Range{Lo: 50, Hi: 50}},
		{uneven, 8, api.Range{Lo: 50, Hi: 51}},
		{uneven, 11, api.Range{Lo: 51, Hi: 52}},
		{uneven, 17, api.Range{Lo: 53, Hi: 53}},
		{uneven, 18, api.Range{Lo: 53, Hi: 54}},
		{uneven, 24, api.Range{Lo: 55, Hi: 55}},
	}
	for _, c := range cases {
		if v, e := lake.LevelAt(c.table, c.volume); e != api.OK || v != c.want {
			t.Error(c, v, e)
		}
	}
	for _, volume := range []int{6, 25, 0, -1, math.MinInt, math.MaxInt} {
		if v, e := lake.LevelAt(uneven, volume); e != api.ErrRange || v != (api.Range{}) {
			t.Error(volume, v, e)
		}
	}
}

// P1.1.
func TestAreaAt(t *testing.T) {
	uneven := knots(50, 7, 54, 17, 60, 37, 61, 1000)
	cases := []struct {
		table  api.LakeTable
		volume int
		want   api.Frac
	}{
		{example(), 0, api.Frac{Num: 10, Den: 1}},
		{example(), 1000, api.Frac{Num: 10, Den: 1}},
		{example(), 1001, api.Frac{Num: 20, Den: 1}},
		{example(), 3000, api.Frac{Num: 20, Den: 1}},
		{uneven, 7, api.Frac{Num: 5, Den: 2}},
		{uneven, 17, api.Frac{Num: 5, Den: 2}},
		{uneven, 18, api.Frac{Num: 10, Den: 3}},
		{uneven, 37, api.Frac{Num: 10, Den: 3}},
		{uneven, 1000, api.Frac{Num: 963, Den: 1}},
		{knots(0, 0, 6, 2), 1, api.Frac{Num: 1, Den: 3}},
	}
	for _, c := range cases {
		if a, e := lake.AreaAt(c.table, c.volume); e != api.OK || a != c.want {
			t.Error(c, a, e)
		}
	}
	for _, volume := range []int{6, 1001, 0, -1, math.MinInt, math.MaxInt} {
		if a, e := lake.AreaAt(uneven, volume); e != api.ErrRange || a != (api.Frac{}) {
			t.Error(volume, a, e)
		}
	}
}

// P1.1.
func TestTablesAsModel(t *testing.T) {
	r := random(1)
	for range 200 {
		x := randomTable(r, 10)
		bottom, top := ends(x)
		for level := bottom.Level; level <= top.Level; level++ {
			if v, e := lake.VolumeAt(x, level); e != api.OK || v != enclosed(modelVolume(x, level)) {
				t.Fatal(x, level, v, e)
			}
		}
		for volume := bottom.Volume; volume <= top.Volume; volume++ {
			checkVolume(t, x, volume)
		}
	}
	for range 2000 {
		x := wideTable()
		level := between(r, 1, api.MaxLakeLevel)
		if v, e := lake.VolumeAt(x, level); e != api.OK || v != enclosed(modelVolume(x, level)) {
			t.Fatal(x, level, v, e)
		}
		checkVolume(t, x, between(r, 7, api.MaxLakeVolume))
	}
}

func checkVolume(t *testing.T, x api.LakeTable, volume int) {
	t.Helper()
	if v, e := lake.LevelAt(x, volume); e != api.OK || v != enclosed(modelLevel(x, volume)) {
		t.Fatal(x, volume, v, e)
	}
	want := modelArea(x, volume)
	if a, e := lake.AreaAt(x, volume); e != api.OK || int64(a.Num) != want.Num().Int64() || int64(a.Den) != want.Denom().Int64() {
		t.Fatal(x, volume, a, e)
	}
}

// P1.9.
func TestVolumesLieBetween(t *testing.T) {
	r := random(2)
	for range 100 {
		x := randomTable(r, 10)
		bottom, top := ends(x)
		lastLevel, lastArea := api.Range{Lo: bottom.Level, Hi: bottom.Level}, api.Frac{Den: 1}
		for volume := bottom.Volume; volume <= top.Volume; volume++ {
			level, _ := lake.LevelAt(x, volume)
			below, _ := lake.VolumeAt(x, level.Lo)
			above, _ := lake.VolumeAt(x, level.Hi)
			if below.Lo > volume || above.Hi < volume || level.Hi-level.Lo > 1 {
				t.Fatal(x, volume, level, below, above)
			}
			area, _ := lake.AreaAt(x, volume)
			if level.Lo < lastLevel.Lo || level.Hi < lastLevel.Hi || area.Num*lastArea.Den < lastArea.Num*area.Den {
				t.Fatal(x, volume, level, area)
			}
			lastLevel, lastArea = level, area
		}
	}
}
