package lake_test

import (
	"math"
	"testing"

	"guidevane/api"
	"guidevane/lake"
)

// P1.5.
func TestMinimumOn(t *testing.T) {
	seasons := []api.LakeSeason{{From: 350, To: 10, Level: 120}, {From: 0, To: 100, Level: 90}}
	year := []api.LakeSeason{{From: 0, To: 364, Level: 7}}
	day := []api.LakeSeason{{From: 40, To: 40, Level: api.MaxLakeLevel}}
	night := []api.LakeSeason{{From: 41, To: 40, Level: 3}}
	cases := []struct {
		seasons    []api.LakeSeason
		date, want int
	}{
		{seasons, 365, 120}, {seasons, 415, 90}, {seasons, 200, 0},
		{seasons, 0, 120}, {seasons, 10, 120}, {seasons, 11, 90}, {seasons, 100, 90}, {seasons, 101, 0},
		{seasons, 349, 0}, {seasons, 350, 120}, {seasons, 364, 120}, {seasons, 349 + 365, 0}, {seasons, 350 + 365, 120},
		{seasons, 99995, 120}, {seasons, 99994, 0}, {seasons, 100000, 120},
		{year, 0, 7}, {year, 364, 7}, {year, 100000, 7},
		{day, 39, 0}, {day, 40, api.MaxLakeLevel}, {day, 41, 0},
		{night, 39, 3}, {night, 40, 3}, {night, 41, 3},
		{nil, 5, 0},
		{[]api.LakeSeason{{From: 1, To: 9, Level: 5}, {From: 2, To: 8, Level: 9}, {From: 3, To: 7, Level: 6}}, 5, 9},
		{make([]api.LakeSeason, api.MaxLakeSeasons), 0, 0},
	}
	for _, c := range cases {
		if n, e := lake.MinimumOn(c.seasons, c.date); e != api.OK || n != c.want {
			t.Error(c, n, e)
		}
	}
}

// P1.5.
func TestMinimumErrors(t *testing.T) {
	long := make([]api.LakeSeason, api.MaxLakeSeasons+1)
	long[0].From = -1
	if n, e := lake.MinimumOn(long, -1); e != api.ErrLarge || n != 0 {
		t.Error("too many seasons", n, e)
	}
	for _, s := range []api.LakeSeason{
		{From: -1, Level: 5}, {From: api.LakeYear, Level: 5}, {From: math.MinInt}, {From: math.MaxInt},
		{To: -1, Level: 5}, {To: api.LakeYear, Level: 5}, {To: math.MinInt}, {To: math.MaxInt},
		{Level: -1}, {Level: api.MaxLakeLevel + 1}, {Level: math.MinInt}, {Level: math.MaxInt},
	} {
		if n, e := lake.MinimumOn([]api.LakeSeason{{To: 364, Level: 8}, s}, 0); e != api.ErrRange || n != 0 {
			t.Error(s, n, e)
		}
	}
	for _, date := range []int{-1, 100001, math.MinInt, math.MaxInt} {
		if n, e := lake.MinimumOn([]api.LakeSeason{{To: 364, Level: 8}}, date); e != api.ErrRange || n != 0 {
			t.Error(date, n, e)
		}
	}
}

// P1.5.
func TestSeasonsAsModel(t *testing.T) {
	r := random(11)
	for range 200 {
		var l []api.LakeSeason
		var minimum [api.LakeYear]int
		for range r.IntN(api.MaxLakeSeasons + 1) {
			s := api.LakeSeason{From: r.IntN(api.LakeYear), To: r.IntN(api.LakeYear), Level: r.IntN(50)}
			l = append(l, s)
			for day := s.From; ; day = (day + 1) % api.LakeYear {
				minimum[day] = max(minimum[day], s.Level)
				if day == s.To {
					break
				}
			}
		}
		for date := range 2 * api.LakeYear {
			if n, e := lake.MinimumOn(l, date); e != api.OK || n != minimum[date%api.LakeYear] {
				t.Fatal(l, date, n, e)
			}
		}
	}
}
