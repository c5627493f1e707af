package dam_test

import (
	"testing"

	"guidevane/api"
	"guidevane/dam"
)

// exampleReadings are the readings of the examples.
func exampleReadings() []api.DamReading {
	return []api.DamReading{{Movement: 100}, {Level: 10, Movement: 130}, {Level: -10, Movement: 72}}
}

// badReadings returns readings for which CheckReading returns ErrRange.
func badReadings() []api.DamReading {
	var l []api.DamReading
	for _, n := range outside(0, api.MaxDamDay) {
		l = append(l, api.DamReading{Day: n}, api.DamReading{Day: n, Level: 50, Movement: 2000})
	}
	for _, n := range outside(-api.MaxDamLevel, api.MaxDamLevel) {
		l = append(l, api.DamReading{Level: n}, api.DamReading{Day: 36000, Level: n, Movement: -2000})
	}
	for _, n := range outside(-api.MaxDamMovement, api.MaxDamMovement) {
		l = append(l, api.DamReading{Movement: n}, api.DamReading{Day: 455, Level: -50, Movement: n})
	}
	return append(l, api.DamReading{Day: -1, Level: 51, Movement: 2001})
}

// P9.1.
func TestCheckReading(t *testing.T) {
	for _, x := range []api.DamReading{{}, {Day: 455, Level: 10, Movement: -7}, {Day: 36000, Level: 50, Movement: 2000}, {Day: 36000, Level: -50, Movement: -2000}, {Day: 1}, {Level: 50}, {Movement: -2000}} {
		if e := dam.CheckReading(x); e != api.OK {
			t.Error(x, e)
		}
	}
	for _, x := range badReadings() {
		if e := dam.CheckReading(x); e != api.ErrRange {
			t.Error(x, e)
		}
		if got := call(dam.TermsOf(x)); !failed(got, api.ErrRange) {
			t.Error(x, got)
		}
	}
}

// P9.1 and example 1.
func TestTermsOf(t *testing.T) {
	for _, c := range []struct {
		day, level int
		want       [5]int
	}{
		{455, 10, [5]int{1, 10, 0, 1, 1}},
		{0, 0, [5]int{1, 0, 1, 0, 0}},
		{89, -3, [5]int{1, -3, 1, 0, 0}},
		{90, 50, [5]int{1, 50, 0, 1, 0}},
		{179, -50, [5]int{1, -50, 0, 1, 0}},
		{180, 1, [5]int{1, 1, -1, 0, 0}},
		{269, 1, [5]int{1, 1, -1, 0, 0}},
		{270, 1, [5]int{1, 1, 0, -1, 0}},
		{359, 2, [5]int{1, 2, 0, -1, 0}},
		{360, 2, [5]int{1, 2, 1, 0, 1}},
		{719, 7, [5]int{1, 7, 0, -1, 1}},
		{35999, -8, [5]int{1, -8, 0, -1, 99}},
		{36000, 9, [5]int{1, 9, 1, 0, 100}},
	} {
		for _, movement := range []int{0, 1, -2000, 2000} {
			if x, e := dam.TermsOf(api.DamReading{Day: c.day, Level: c.level, Movement: movement}); x != c.want || e != api.OK {
				t.Error(c, x, e)
			}
		}
	}
	for day := range api.MaxDamDay + 1 {
		reading := api.DamReading{Day: day, Level: day%101 - 50}
		if x, e := dam.TermsOf(reading); x != modelTerms(reading) || e != api.OK {
			t.Fatal(reading, x, e)
		}
	}
}
