package dispatch_test

import (
	"math/rand/v2"
	"slices"
	"testing"

	"guidevane/api"
	"guidevane/dispatch"
)

// expectPlan tests the volumes, the value and the starts of a plan.
func expectPlan(t *testing.T, p api.DispatchPlant, x api.DispatchTask, plan, volumes []int, value, starts int) {
	t.Helper()
	l, e := dispatch.VolumesOf(p, x, plan)
	if !slices.Equal(l, volumes) || e != api.OK {
		t.Error("VolumesOf", p, x, plan, l, e, "want", volumes)
	}
	if n, e := dispatch.ValueOf(p, x, plan); n != value || e != api.OK {
		t.Error("ValueOf", p, x, plan, n, e, "want", value)
	}
	if n, e := dispatch.StartsOf(p, x, plan); n != starts || e != api.OK {
		t.Error("StartsOf", p, x, plan, n, e, "want", starts)
	}
}

// P8.2 and example 1.
func TestPlansOfExample(t *testing.T) {
	p, x := examplePlant(), exampleTask()
	expectPlan(t, p, x, []int{rest, turbine}, []int{4, 4, 2}, 30, 1)
	expectPlan(t, p, x, []int{pump, turbine}, []int{4, 7, 5}, 20, 2)
	expectPlan(t, p, x, []int{rest, rest}, []int{4, 4, 5}, 5, 0)
}

// P8.2: the limits themselves are possible.
func TestPlansAtLimits(t *testing.T) {
	p := examplePlant()
	at := func(volume, inflow int) api.DispatchTask {
		return api.DispatchTask{Volume: volume, Mode: turbine, Hours: []api.DispatchHour{{Inflow: inflow}}}
	}
	expectPlan(t, p, at(7, 0), []int{pump}, []int{7, 10}, -5, 1)
	expectPlan(t, p, at(3, 0), []int{turbine}, []int{3, 0}, 0, 0)
	expectPlan(t, p, at(0, 10), []int{rest}, []int{0, 10}, 0, 1)
	expectPlan(t, p, at(10, -10), []int{rest}, []int{10, 0}, 0, 1)
	for _, x := range []struct {
		task api.DispatchTask
		mode int
	}{{at(8, 0), pump}, {at(2, 0), turbine}, {at(0, 11), rest}, {at(10, -11), rest}, {at(10, 10000), turbine}, {at(0, -10000), pump}} {
		if got := call(dispatch.ValueOf(p, x.task, []int{x.mode})); !failed(got, api.ErrBreak) {
			t.Error(x, got)
		}
	}
}

// P8.2: energy above 0 is sold, other energy is bought; edge cases: prices may be below 0, and a start is paid again after another mode.
func TestRevenues(t *testing.T) {
	p := api.DispatchPlant{Hi: 9, Modes: []api.DispatchMode{{Name: "sell", Energy: 3, Start: 100}, {Name: "buy", Energy: -7, Start: 10000}, {Name: "none"}}}
	hours := func(l ...api.DispatchHour) []api.DispatchHour { return l }
	task := func(mode, worth int, hours []api.DispatchHour) api.DispatchTask {
		return api.DispatchTask{Volume: 5, Mode: mode, Worth: worth, Hours: hours}
	}
	good, bad := api.DispatchHour{Buy: 11, Sell: 2}, api.DispatchHour{Buy: -2, Sell: -11}
	same := []int{5, 5}
	expectPlan(t, p, task(0, 0, hours(good)), []int{0}, same, 6, 0)
	expectPlan(t, p, task(0, 0, hours(bad)), []int{0}, same, -33, 0)
	expectPlan(t, p, task(1, 0, hours(good)), []int{1}, same, -77, 0)
	expectPlan(t, p, task(1, 0, hours(bad)), []int{1}, same, 14, 0)
	expectPlan(t, p, task(2, 0, hours(good)), []int{2}, same, 0, 0)
	expectPlan(t, p, task(2, 7, hours(bad)), []int{2}, same, 35, 0)
	expectPlan(t, p, task(2, -7, hours(good)), []int{0}, same, 6-100-35, 1)
	expectPlan(t, p, task(0, 0, hours(good)), []int{1}, same, -77-10000, 1)
	expectPlan(t, p, task(0, 0, hours(good)), []int{2}, same, 0, 1)
	four, volumes := hours(good, bad, good, bad), []int{5, 5, 5, 5, 5}
	expectPlan(t, p, task(0, 0, four), []int{0, 2, 0, 0}, volumes, 6+0+6-100-33, 2)
	expectPlan(t, p, task(2, 0, four), []int{0, 1, 0, 1}, volumes, 6-100+14-10000+6-100+14-10000, 4)
	expectPlan(t, p, task(2, 0, four), []int{1, 1, 1, 1}, volumes, -77-10000+14-77+14, 1)
	expectPlan(t, p, task(1, 3, four), []int{2, 2, 2, 1}, volumes, 14-10000+15, 2)
}

// P8.2: numbers as large as there may be.
func TestLargestValue(t *testing.T) {
	p, x := largeTask()
	expectPlan(t, p, x, []int{1, 0, 1, 0, 1, 0, 3, 4, 1, 0}, []int{1000000, 1000000, 1000000, 1000000, 1000000, 1000000, 1000000, 1000000, 1000000, 1000000, 1000000}, -10*(100000000+10000)-10000000000, 10)
	if _, n, e := dispatch.BestPlan(p, x); n != -10000000000-5*200000000-10*10000 || e != api.OK {
		t.Error(n, e)
	}
}

type badPlan struct {
	plan []int
	want api.Errno
}

// badPlans returns plans of the task of the examples for each of their errors, and for each order of two errors.
func badPlans() []badPlan {
	l := []badPlan{
		{nil, api.ErrShape}, {[]int{}, api.ErrShape}, {[]int{0}, api.ErrShape}, {[]int{0, 0, 0}, api.ErrShape}, {[]int{-1}, api.ErrShape}, {[]int{3, 3, 3}, api.ErrShape}, {[]int{turbine, turbine, turbine}, api.ErrShape}, {make([]int, 1000), api.ErrShape},
		{[]int{turbine, turbine}, api.ErrBreak}, {[]int{pump, pump}, api.ErrBreak},
	}
	for _, n := range outside(0, 2) {
		for _, plan := range [][]int{{n, rest}, {rest, n}, {n, n}, {turbine, n}, {n, turbine}, {pump, n}} {
			l = append(l, badPlan{plan, api.ErrMissing})
		}
	}
	return l
}

// badBroken returns a plan that breaks a limit in its first hour, and has a mode that is missing after it.
func badBroken() (api.DispatchTask, []int) {
	return taskWith(func(t *api.DispatchTask) { t.Volume = 0 }), []int{turbine, 3}
}

// P8.2: ErrBreak comes after the modes of all hours, and also if only a volume in the middle is not possible.
func TestBrokenPlans(t *testing.T) {
	p := examplePlant()
	x, plan := badBroken()
	for i, got := range ofPlan(p, x, plan) {
		if !failed(got, api.ErrMissing) {
			t.Error(i, got)
		}
		if got := ofPlan(p, x, []int{turbine, pump})[i]; !failed(got, api.ErrBreak) {
			t.Error(i, got)
		}
	}
	hours := make([]api.DispatchHour, 10)
	for at := range 10 {
		for _, inflow := range []int{11, -1, 10000, -10000} {
			l := slices.Clone(hours)
			l[at].Inflow = inflow
			if at < 9 {
				l[at+1].Inflow = -inflow
			}
			x := api.DispatchTask{Hours: l}
			for i, got := range ofPlan(p, x, make([]int, 10)) {
				if !failed(got, api.ErrBreak) {
					t.Error(at, inflow, i, got)
				}
			}
		}
	}
}

// P8.2 and example 2.
func TestBestPlan(t *testing.T) {
	for _, c := range []struct {
		plant, task string
		plan        []int
		value       int
		want        api.Errno
	}{
		{"0 10;rest 0 0 0;pump 3 -4 5;turbine -3 3 2", "4 0 1;2 1 0;12 10 1", []int{0, 2}, 30, api.OK},
		// of several best plans the lexicographically first one
		{"0 9;a 0 0 0;b 0 0 0", "5 0 0;0 0 0;0 0 0", []int{0, 0}, 0, api.OK},
		{"0 9;a 0 0 0;b 0 0 0", "5 1 0;0 0 0;0 0 0", []int{0, 0}, 0, api.OK},
		{"0 9;a 0 0 1;b 0 0 0", "5 1 2;0 0 0;0 0 0", []int{1, 1}, 10, api.OK},
		{"0 9;a 1 0 0;b -1 0 0", "5 0 0;0 0 0;0 0 0", []int{0, 0}, 0, api.OK},
		{"0 5;a 1 0 0;b -1 0 0", "5 0 0;0 0 0;0 0 0", []int{1, 0}, 0, api.OK},
		{"5 5;a 1 0 0;b -1 0 0", "5 0 0;0 0 1;0 0 -1", []int{1, 0}, 0, api.OK},
		// a mode that is worth most at once leads nowhere
		{"0 9;a -5 9 0;b 0 0 0", "5 0 0;9 9 0;0 0 -5", []int{1, 1}, 0, api.OK},
		{"0 9;a -5 9 0;b 0 0 0", "5 0 0;9 9 0;0 0 5", []int{0, 0}, 81, api.OK},
		// a start is dear, so that the mode is kept
		{"0 9;a 0 0 10;b 0 1 10", "5 0 0;9 9 0;0 -9 0;9 9 0", []int{0, 0, 0}, 0, api.OK},
		{"0 9;a 0 0 10;b 0 1 10", "5 0 0;20 20 0;0 -2 0;9 9 0", []int{1, 1, 1}, 17, api.OK},
		{"0 9;a 0 0 0;b 0 1 10", "5 0 0;20 20 0;0 -12 0;19 19 0", []int{1, 0, 1}, 19, api.OK},
		// what a volume is worth at the end
		{"0 9;a 0 0 0;b -1 1 0;c 1 -1 0", "5 0 3;2 2 0", []int{2}, 16, api.OK},
		{"0 9;a 0 0 0;b -1 1 0;c 1 -1 0", "5 0 -3;2 2 0", []int{1}, -10, api.OK},
		{"0 9;a 0 0 0;b -1 1 0;c 1 -1 0", "5 0 2;2 2 0", []int{0}, 10, api.OK},
		// no plan is possible
		{"0 9;a 1 0 0", "9 0 0;0 0 0", nil, 0, api.ErrNone},
		{"0 9;a 1 0 0", "8 0 0;0 0 0;0 0 0", nil, 0, api.ErrNone},
		{"0 9;a -1 0 0;b -2 0 0", "0 0 0;0 0 0", nil, 0, api.ErrNone},
		{"0 9;a 0 0 0", "5 0 0;0 0 0;0 0 10", nil, 0, api.ErrNone},
		{"0 9;a 0 0 0;b 9 10000 0", "0 0 10000;10000 10000 0;10000 10000 0;10000 10000 -10000", nil, 0, api.ErrNone},
		// one volume
		{"4 4;rest 0 0 0;pump 3 -4 5;turbine -3 3 2", "4 0 1;2 1 0;12 10 3", []int{0, 2}, 32, api.OK},
		{"4 4;rest 0 0 0;pump 3 -4 5;turbine -3 3 2", "4 0 1;2 1 0;12 10 1", nil, 0, api.ErrNone},
		{"1000000 1000000;a 0 0 0", "1000000 0 -10000;0 0 0", []int{0}, -10000000000, api.OK},
	} {
		p, x := parsed(t, c.plant, c.task)
		plan, value, e := dispatch.BestPlan(p, x)
		if !slices.Equal(plan, c.plan) || value != c.value || e != c.want {
			t.Error(c, plan, value, e)
		}
	}
}

// parsed returns the plant and the task with two strings.
func parsed(t *testing.T, plant, task string) (api.DispatchPlant, api.DispatchTask) {
	t.Helper()
	p, e := dispatch.ParsePlant(plant)
	if e != api.OK {
		t.Fatal(plant, e)
	}
	x, e := dispatch.ParseTask(task)
	if e != api.OK {
		t.Fatal(task, e)
	}
	return p, x
}

// P8.2 and example 3; edge case: with one volume only modes that balance the inflow are possible.
func TestReachableAt(t *testing.T) {
	for _, c := range []struct {
		plant, task string
		want        [][]int
	}{
		{"0 10;rest 0 0 0;pump 3 -4 5;turbine -3 3 2", "4 0 1;2 1 0;12 10 1", [][]int{{4}, {1, 4, 7}, {2, 5, 8}}},
		{"4 4;rest 0 0 0;pump 3 -4 5;turbine -3 3 2", "4 0 1;2 1 0;12 10 1", [][]int{{}, {}, {}}},
		{"4 4;rest 0 0 0;pump 3 -4 5;turbine -3 3 2", "4 0 1;2 1 0;12 10 -3", [][]int{{4}, {4}, {4}}},
		{"0 39;a 1 0 0", "0 0 0;0 0 0;0 0 0;0 0 0", [][]int{{0}, {1}, {2}, {3}}},
		{"1 40;a 39 0 0;b -39 0 0;c 0 0 0", "1 0 0;0 0 0;0 0 0", [][]int{{1}, {1, 40}, {1, 40}}},
		{"0 9;a 0 0 0;b 1 0 0", "8 0 0;0 0 0;0 0 0;0 0 0", [][]int{{8}, {8, 9}, {8, 9}, {8, 9}}},
		{"0 9;b 1 0 0;a 0 0 0", "9 0 0;0 0 -1;0 0 -8;0 0 -1", [][]int{{9}, {8, 9}, {0, 1, 2}, {0, 1, 2}}},
		{"0 9;a -1 0 0;b 1 0 0;c 5 0 0", "1 0 0;0 0 0;0 0 -4;0 0 0", [][]int{{1}, {0, 2, 6}, {1, 3, 7}, {0, 2, 4, 6, 8}}},
		// more volumes are reached, but no mode leads on from them, or none does one hour later
		{"0 9;a 0 0 0;b 1 0 0;c 5 0 0", "0 0 0;0 0 0;0 0 -6", [][]int{{0}, {1, 5}, {0, 4}}},
		{"0 9;a 0 0 0;b 2 0 0", "0 0 0;0 0 0;0 0 -3", [][]int{{0}, {2}, {1}}},
		{"0 9;a 0 10000 0;b 2 -10000 10000", "0 0 0;10000 10000 0;10000 10000 0;0 0 -5", [][]int{{0}, {2}, {4}, {1}}},
		{"0 9;a 0 10000 0;b 2 -10000 10000", "0 0 0;10000 10000 0;10000 10000 0;0 0 -7", [][]int{{}, {}, {}, {}}},
	} {
		p, x := parsed(t, c.plant, c.task)
		for hour, want := range c.want {
			if l, e := dispatch.ReachableAt(p, x, hour); !slices.Equal(l, want) || e != api.OK {
				t.Error(c, hour, l, e)
			}
		}
	}
}

// P8.2: the error of the time comes last.
func TestReachableAtErrors(t *testing.T) {
	p, large := examplePlant(), taskWith(func(t *api.DispatchTask) { t.Hours = make([]api.DispatchHour, 10) })
	for _, x := range []api.DispatchTask{exampleTask(), large, taskWith(func(t *api.DispatchTask) { t.Hours[0].Inflow = 10000 })} {
		for _, hour := range outside(0, len(x.Hours)) {
			if got := call(dispatch.ReachableAt(p, x, hour)); !failed(got, api.ErrRange) {
				t.Error(hour, got)
			}
		}
	}
	if l, e := dispatch.ReachableAt(p, large, 10); len(l) != 4 || e != api.OK {
		t.Error(l, e)
	}
}

func randomPlan(r *rand.Rand, p api.DispatchPlant, x api.DispatchTask) []int {
	var plan []int
	for range x.Hours {
		plan = append(plan, r.IntN(len(p.Modes)))
	}
	return plan
}

// P8.2, and P8.8: random plants and tasks, with all plans tried.
func TestPlansAgainstModel(t *testing.T) {
	r := random(1)
	none, found := 0, 0
	for range 1500 {
		p, x := randomTask(r, anyKind(r))
		all := possiblePlans(p, x)
		best, value, want := modelBest(p, x, all)
		if plan, n, e := dispatch.BestPlan(p, x); !slices.Equal(plan, best) || n != value || e != want {
			t.Fatal(p, x, plan, n, e, "want", best, value, want)
		}
		for hour := range len(x.Hours) + 1 {
			if l, e := dispatch.ReachableAt(p, x, hour); !slices.Equal(l, modelReachable(p, x, all, hour)) || e != api.OK {
				t.Fatal(p, x, hour, l, e)
			}
		}
		plan := randomPlan(r, p, x)
		if len(all) > 0 && r.IntN(4) > 0 {
			plan = chosen(r, all...)
		}
		if modelIsPossible(p, x, plan) {
			found++
			expectPlan(t, p, x, plan, modelVolumes(p, x, plan), modelValue(p, x, plan), modelStarts(x, plan))
		} else {
			none++
			for i, got := range ofPlan(p, x, plan) {
				if !failed(got, api.ErrBreak) {
					t.Fatal(p, x, plan, i, got)
				}
			}
		}
	}
	if none < 300 || found < 300 {
		t.Error(none, found)
	}
}

// P8.2: as many modes and hours as there may be, with ways found from the first hour on.
func TestLongPlans(t *testing.T) {
	r := random(2)
	anywhere := func(hour, volume int) bool { return true }
	for range 300 {
		k := kind{modes: 5, hours: 10, span: 40, change: chosen(r, 1, 3, 9, 30), price: chosen(r, 1, 2, 10, 10000)}
		p, x := randomTask(r, k)
		best, value, want := modelBestFromFirst(p, x, anywhere)
		if plan, n, e := dispatch.BestPlan(p, x); !slices.Equal(plan, best) || n != value || e != want {
			t.Fatal(p, x, plan, n, e, "want", best, value, want)
		}
	}
}

// P8.8: the best plan is possible and worth what is said, and no possible plan is worth more.
func TestNoPlanIsWorthMore(t *testing.T) {
	r := random(3)
	for range 500 {
		p, x := randomTask(r, anyKind(r))
		plan, value, e := dispatch.BestPlan(p, x)
		all := possiblePlans(p, x)
		if (e == api.OK) != (len(all) > 0) {
			t.Fatal(p, x, plan, e)
		}
		if n, f := dispatch.ValueOf(p, x, plan); e == api.OK && (f != api.OK || n != value) {
			t.Fatal(p, x, plan, value, n, f)
		}
		for _, other := range all {
			if n, e := dispatch.ValueOf(p, x, other); n > value || n == value && slices.Compare(other, plan) < 0 || e != api.OK {
				t.Fatal(p, x, plan, other, n, e)
			}
		}
	}
}

// P8.8: if Lo, Hi and the volume are greater by the same number, so is the best plan, and its value by Worth times this number.
func TestMovedVolumes(t *testing.T) {
	r := random(4)
	for range 1000 {
		p, x := randomTask(r, anyKind(r))
		plan, value, e := dispatch.BestPlan(p, x)
		by := chosen(r, -p.Lo, api.MaxDispatchVolume-p.Hi, between(r, -p.Lo, api.MaxDispatchVolume-p.Hi))
		p.Lo, p.Hi, x.Volume = p.Lo+by, p.Hi+by, x.Volume+by
		if e == api.OK {
			value += by * x.Worth
		}
		if moved, n, f := dispatch.BestPlan(p, x); !slices.Equal(plan, moved) || n != value || f != e {
			t.Fatal(p, x, by, plan, value, e, moved, n, f)
		}
	}
}
