package dispatch_test

import (
	"slices"
	"testing"

	"guidevane/api"
	"guidevane/dispatch"
)

// expectReserve tests for how long a reserve can be given, and what is promised of it.
func expectReserve(t *testing.T, p api.DispatchPlant, x api.DispatchTask, r api.DispatchReserve, given []int, promised int) {
	t.Helper()
	if l, e := dispatch.ReserveOf(p, x, r); !slices.Equal(l, given) || e != api.OK {
		t.Error(p, x, r, l, e, "want", given)
	}
	if n, e := dispatch.PromisedIn(p, x, r); n != promised || e != api.OK {
		t.Error(p, x, r, n, e, "want", promised)
	}
}

// P8.4 and example 4.
func TestReserves(t *testing.T) {
	for _, c := range []struct {
		plant, task string
		plan        []int
		mode        int
		given       []int
		promised    int
	}{
		{"0 10;rest 0 0 0;pump 3 -4 5;turbine -3 3 2", "4 0 1;2 1 0;12 10 1", []int{rest, turbine}, turbine, []int{1, 1}, 1},
		{"0 10;rest 0 0 0;pump 3 -4 5;turbine -3 3 2", "4 0 1;2 1 0;12 10 1", []int{rest, turbine}, rest, []int{2, 1}, 10},
		{"0 10;rest 0 0 0;pump 3 -4 5;turbine -3 3 2", "4 0 1;2 1 0;12 10 1", []int{rest, turbine}, pump, []int{1, 1}, 1},
		{"0 10;rest 0 0 0;pump 3 -4 5;turbine -3 3 2", "4 0 1;2 1 0;12 10 1", []int{pump, turbine}, pump, []int{1, 0}, 0},
		{"0 10;rest 0 0 0;pump 3 -4 5;turbine -3 3 2", "4 0 1;2 1 0;12 10 1", []int{turbine, rest}, turbine, []int{1, 0}, 0},
		// the limits themselves are held, and a reserve that has ended does not come back
		{"0 3;a 0 0 0;b 1 0 0;c -1 0 0", "0 0 0;0 0 0;0 0 0;0 0 0;0 0 0;0 0 0", []int{0, 0, 0, 0, 0}, 1, []int{3, 3, 3, 2, 1}, 3},
		{"0 3;a 0 0 0;b 1 0 0;c -1 0 0", "3 0 0;0 0 0;0 0 0;0 0 0;0 0 0;0 0 0", []int{0, 0, 0, 0, 0}, 2, []int{3, 3, 3, 2, 1}, 3},
		{"0 3;a 0 0 0;b 1 0 0;c -1 0 0", "3 0 0;0 0 0;0 0 0;0 0 0;0 0 0;0 0 0", []int{0, 0, 0, 0, 0}, 1, []int{0, 0, 0, 0, 0}, 0},
		{"0 3;a 0 0 0;b 1 0 0;c -1 0 0", "3 0 0;0 0 -1;0 0 -1;0 0 0;0 0 0;0 0 1", []int{0, 0, 0, 0, 2}, 1, []int{2, 2, 2, 1, 1}, 1},
		{"0 3;a 0 0 0;b 2 0 0;c -2 0 0", "2 0 0;0 0 0;0 0 -2;0 0 0", []int{0, 0, 0}, 1, []int{0, 1, 1}, 0},
		{"0 3;a 0 0 0;b 2 0 0;c -2 0 0", "2 0 0;0 0 0;0 0 -2;0 0 0", []int{0, 0, 0}, 2, []int{1, 0, 0}, 0},
		// the hours that the plan spends otherwise do not matter, only its volume before
		{"0 3;a 0 0 0;b 1 0 0;c -1 0 0", "0 0 0;0 0 0;0 0 0;0 0 0", []int{1, 1, 2}, 2, []int{0, 1, 1}, 0},
		{"0 3;a 0 0 0;b 1 0 0;c -1 0 0", "1 0 0;0 0 0;0 0 0;0 0 0", []int{1, 1, 2}, 2, []int{1, 2, 1}, 1},
		{"0 3;a 0 0 0;b 1 0 0;c -1 0 0", "2 0 0;0 0 0;0 0 0;0 0 0", []int{1, 2, 2}, 2, []int{2, 2, 1}, 2},
		{"0 3;a 0 0 0;b 1 0 0;c -1 0 0", "3 0 0;0 0 0;0 0 0;0 0 0", []int{0, 2, 2}, 2, []int{3, 2, 1}, 10},
		// one hour, and as many as there may be
		{"4 4;a 0 0 0;b 1 0 0", "4 0 0;0 0 0", []int{0}, 0, []int{1}, 10},
		{"4 4;a 0 0 0;b 1 0 0", "4 0 0;0 0 0", []int{0}, 1, []int{0}, 0},
		{"4 4;a 0 0 0;b 1 0 0", "4 0 0;0 0 -1", []int{1}, 1, []int{1}, 10},
		{"0 39;a 0 0 0", "4 0 0;0 0 0;0 0 0;0 0 0;0 0 0;0 0 0;0 0 0;0 0 0;0 0 0;0 0 0;0 0 0", make([]int, 10), 0, []int{10, 9, 8, 7, 6, 5, 4, 3, 2, 1}, 10},
		{"0 39;a 0 0 0;b 4 0 0", "4 0 0;0 0 0;0 0 0;0 0 0;0 0 0;0 0 0;0 0 0;0 0 0;0 0 0;0 0 0;0 0 0", make([]int, 10), 1, []int{8, 8, 8, 7, 6, 5, 4, 3, 2, 1}, 8},
	} {
		p, x := parsed(t, c.plant, c.task)
		expectReserve(t, p, x, api.DispatchReserve{Plan: c.plan, Mode: c.mode}, c.given, c.promised)
	}
}

// P8.4: the error of the reserve comes last.
func TestReserveErrors(t *testing.T) {
	p, x := examplePlant(), exampleTask()
	for _, n := range outside(0, 2) {
		for i, got := range ofReserve(p, x, api.DispatchReserve{Plan: []int{rest, turbine}, Mode: n}) {
			if !failed(got, api.ErrMissing) {
				t.Error(n, i, got)
			}
		}
	}
}

// P8.4 and example 5.
func TestBestWith(t *testing.T) {
	const plant, task = "0 10;rest 0 0 0;pump 3 -4 5;turbine -3 3 2", "4 0 1;2 1 0;12 10 1"
	for _, c := range []struct {
		plant, task string
		mode, hours int
		plan        []int
		value       int
		want        api.Errno
	}{
		{plant, task, turbine, 2, nil, 0, api.ErrNone},
		{plant, task, turbine, 10, nil, 0, api.ErrNone},
		{plant, task, turbine, 1, []int{rest, turbine}, 30, api.OK},
		{plant, task, turbine, 0, []int{rest, turbine}, 30, api.OK},
		{plant, task, pump, 0, []int{rest, turbine}, 30, api.OK},
		{plant, task, rest, 10, []int{rest, turbine}, 30, api.OK},
		{plant, "4 0 1;2 1 0;12 10 0;12 10 0", turbine, 1, []int{pump, turbine, turbine}, -8 - 5 + 30 - 2 + 30 + 1, api.OK},
		{plant, "4 0 1;2 1 0;12 10 0;12 10 0", turbine, 2, nil, 0, api.ErrNone},
		{plant, "6 0 1;2 1 0;12 10 0;12 10 0", turbine, 2, []int{rest, turbine, turbine}, 30 - 2 + 30, api.OK},
		{plant, "9 0 1;2 1 0;12 10 0;12 10 0", turbine, 2, []int{rest, turbine, turbine}, 30 - 2 + 30 + 3, api.OK},
		{plant, "9 0 1;9 9 0;12 10 0;12 10 0", turbine, 2, []int{turbine, turbine, turbine}, 27 - 2 + 30 + 30 + 0, api.OK},
		// the hold forbids the plan that is worth most, and the first one of two that are worth as much
		{"0 3;a 0 0 0;b -1 1 0", "1 0 0;9 5 0;9 5 0", 1, 0, []int{0, 1}, 5, api.OK},
		{"0 3;a 0 0 0;b -1 1 0", "1 0 0;9 5 0;9 5 0", 1, 1, []int{0, 1}, 5, api.OK},
		{"0 3;a 0 0 0;b -1 1 0", "1 0 0;9 6 0;9 5 0", 1, 0, []int{1, 0}, 6, api.OK},
		{"0 3;a 0 0 0;b -1 1 0", "1 0 0;9 6 0;9 5 0", 1, 1, []int{0, 1}, 5, api.OK},
		{"0 3;a 0 0 0;b -1 1 0", "1 0 0;9 6 0;9 5 0", 1, 2, nil, 0, api.ErrNone},
		{"0 3;a 0 0 0;b 1 0 0;c -1 0 0", "2 0 0;0 0 0;0 0 0", 1, 0, []int{0, 0}, 0, api.OK},
		{"0 3;a 0 0 0;b 1 0 0;c -1 0 0", "2 0 0;0 0 0;0 0 0;0 0 0", 1, 1, []int{0, 0, 0}, 0, api.OK},
		{"0 3;a 0 0 0;b 1 0 0;c -1 0 0", "1 0 0;0 0 0;0 0 0;0 0 0", 1, 2, []int{0, 0, 0}, 0, api.OK},
		{"0 3;a 0 0 0;b 1 0 0;c -1 0 0", "1 0 9;0 0 0;0 0 0;0 0 0", 1, 2, []int{0, 1, 1}, 27, api.OK},
		{"0 3;a 0 0 0;b 1 0 0;c -1 0 0", "1 0 9;0 0 0;0 0 0;0 0 0", 1, 0, []int{0, 1, 1}, 27, api.OK},
		{"0 3;a 0 0 0;b 1 0 0;c -1 0 0", "1 0 9;0 0 0;0 0 0;0 0 0", 2, 1, []int{0, 1, 1}, 27, api.OK},
		{"0 3;a 0 0 0;b 1 0 0;c -1 0 0", "1 0 9;0 0 0;0 0 0;0 0 0", 2, 2, nil, 0, api.ErrNone},
		{"0 3;a 0 0 0;b 1 0 0;c -1 0 0", "3 0 9;0 0 0;0 0 0;0 0 0;0 0 -3", 0, 2, []int{0, 0, 0, 1}, 9, api.OK},
		// a plan is possible, but none that holds the reserve, or the other way round
		{"0 3;a 0 0 0;b 1 0 0", "3 0 0;0 0 0", 1, 1, nil, 0, api.ErrNone},
		{"0 3;a 0 0 0;b 1 0 0", "3 0 0;0 0 0", 1, 0, []int{0}, 0, api.OK},
		{"0 3;a 0 0 0", "3 0 0;0 0 1", 0, 0, nil, 0, api.ErrNone},
		{"0 3;a 0 0 0;b 1 0 0", "3 0 0;0 0 0;0 0 5", 0, 1, nil, 0, api.ErrNone},
	} {
		p, x := parsed(t, c.plant, c.task)
		plan, value, e := dispatch.BestWith(p, x, api.DispatchHold{Mode: c.mode, Hours: c.hours})
		if !slices.Equal(plan, c.plan) || value != c.value || e != c.want {
			t.Error(c, plan, value, e)
		}
	}
}

// P8.4: the errors of holds, in their order, before ErrNone.
func TestBestWithErrors(t *testing.T) {
	impossible := taskWith(func(t *api.DispatchTask) { t.Hours[0].Inflow = 10000 })
	for _, x := range []api.DispatchTask{exampleTask(), impossible} {
		for _, n := range outside(0, 2) {
			for _, hours := range []int{0, 10, 11, -1} {
				if got := call(dispatch.BestWith(examplePlant(), x, api.DispatchHold{Mode: n, Hours: hours})); !failed(got, api.ErrMissing) {
					t.Error(n, hours, got)
				}
			}
		}
		for _, n := range outside(0, 10) {
			for mode := range 3 {
				if got := call(dispatch.BestWith(examplePlant(), x, api.DispatchHold{Mode: mode, Hours: n})); !failed(got, api.ErrRange) {
					t.Error(n, mode, got)
				}
			}
		}
	}
	for hours := range 11 {
		if got := call(dispatch.BestWith(examplePlant(), impossible, api.DispatchHold{Mode: rest, Hours: hours})); !failed(got, api.ErrNone) {
			t.Error(hours, got)
		}
	}
}

// P8.4: random reserves and holds, with all plans tried.
func TestReservesAgainstModel(t *testing.T) {
	r := random(9)
	none, other, same := 0, 0, 0
	for range 3000 {
		p, x := randomTask(r, anyKind(r))
		all := possiblePlans(p, x)
		if len(all) > 0 {
			plan, mode := chosen(r, all...), r.IntN(len(p.Modes))
			expectReserve(t, p, x, api.DispatchReserve{Plan: plan, Mode: mode}, modelReserve(p, x, plan, mode), modelPromised(p, x, plan, mode))
		}
		hold := api.DispatchHold{Mode: r.IntN(len(p.Modes)), Hours: chosen(r, 1, r.IntN(4), r.IntN(11))}
		holding := slices.DeleteFunc(slices.Clone(all), func(plan []int) bool { return !modelHolds(p, x, plan, hold) })
		best, value, want := modelBest(p, x, holding)
		plan, n, e := dispatch.BestWith(p, x, hold)
		if !slices.Equal(plan, best) || n != value || e != want {
			t.Fatal(p, x, hold, plan, n, e, "want", best, value, want)
		}
		free, _, _ := modelBest(p, x, all)
		switch {
		case len(all) > 0 && e == api.ErrNone:
			none++
		case len(all) > 0 && !slices.Equal(free, best):
			other++
		case len(all) > 0 && hold.Hours > 0:
			same++
		}
	}
	if none < 100 || other < 30 || same < 100 {
		t.Error(none, other, same)
	}
}

// P8.4: as many modes and hours as there may be, with ways found from the first hour on.
func TestLongHolds(t *testing.T) {
	r := random(10)
	for range 300 {
		p, x := randomTask(r, kind{modes: 5, hours: 10, span: 40, change: chosen(r, 1, 3, 9), price: chosen(r, 1, 10, 10000)})
		hold := api.DispatchHold{Mode: r.IntN(5), Hours: r.IntN(11)}
		holds := func(hour, volume int) bool {
			return modelCan(p, x, hour, volume, hold.Mode, min(hold.Hours, 10-hour))
		}
		best, value, want := modelBestFromFirst(p, x, holds)
		if plan, n, e := dispatch.BestWith(p, x, hold); !slices.Equal(plan, best) || n != value || e != want {
			t.Fatal(p, x, hold, plan, n, e, "want", best, value, want)
		}
	}
}

// P8.9: a hold for 0 hours is none, a longer one is never worth more, and a plan that holds a reserve for n hours from each hour promises it for n at least.
func TestLongerHolds(t *testing.T) {
	r := random(13)
	for range 500 {
		p, x := randomTask(r, anyKind(r))
		mode := r.IntN(len(p.Modes))
		best, before, error := dispatch.BestPlan(p, x)
		for hours := range 11 {
			plan, value, e := dispatch.BestWith(p, x, api.DispatchHold{Mode: mode, Hours: hours})
			if hours == 0 && (!slices.Equal(plan, best) || value != before || e != error) {
				t.Fatal(p, x, mode, plan, value, e, "want", best, before, error)
			}
			if error != api.OK && e == api.OK || e == api.OK && value > before {
				t.Fatal(p, x, mode, hours, value, e, before, error)
			}
			before, error = value, e
			if e != api.OK {
				continue
			}
			given, e := dispatch.ReserveOf(p, x, api.DispatchReserve{Plan: plan, Mode: mode})
			n, f := dispatch.PromisedIn(p, x, api.DispatchReserve{Plan: plan, Mode: mode})
			if e != api.OK || f != api.OK || n < slices.Min(given) || n < hours {
				t.Fatal(p, x, mode, hours, given, n, e, f)
			}
		}
	}
}
