package dispatch_test

import (
	"slices"
	"testing"

	"guidevane/api"
	"guidevane/dispatch"
)

// expectBound tests what CheckBound returns.
func expectBound(t *testing.T, p api.DispatchPlant, x api.DispatchTask, potentials [][]int, bound int, want api.Errno) {
	t.Helper()
	if n, e := dispatch.CheckBound(p, x, potentials); n != bound || e != want {
		t.Errorf("%v %v %v: %v %v, want %v %v", p, x, potentials, n, e, bound, want)
	}
}

// twoModes returns a plant with two volumes, 4 and 5, and two modes, and a task of one hour that begins with the volume 5 and the mode 1.
func twoModes() (api.DispatchPlant, api.DispatchTask) {
	p := api.DispatchPlant{Lo: 4, Hi: 5, Modes: []api.DispatchMode{{Name: "fill", Change: 1, Energy: -2, Start: 7}, {Name: "empty", Change: -1, Energy: 3, Start: 1}}}
	return p, api.DispatchTask{Volume: 5, Mode: 1, Worth: 10, Hours: []api.DispatchHour{{Buy: 6, Sell: 5}}}
}

// P8.3: the cells are numbered by volumes, and then by modes; each number must be as great as defined.
func TestCheckBound(t *testing.T) {
	p, x := twoModes()
	// from 4 only fill is possible, to 5: -12 - 7 + 50, or without a start; from 5 only empty, to 4: 15 - 1 + 40, or without a start
	potentials := func() [][]int { return [][]int{{38, 31, 54, 55}, {40, 40, 50, 50}} }
	expectBound(t, p, x, potentials(), 55, api.OK)
	for time := range 2 {
		for cell := range 4 {
			less := potentials()
			less[time][cell]--
			expectBound(t, p, x, less, 0, api.ErrProof)
		}
	}
	for cell := range 4 {
		more := potentials()
		more[0][cell] += 100
		expectBound(t, p, x, more, more[0][3], api.OK)
	}
	for cell, before := range map[int][]int{1: {2, 3}, 2: {0, 1}} {
		more := potentials()
		more[1][cell]++
		for _, c := range before { // what leads to the cell needs more, too
			expectBound(t, p, x, more, 0, api.ErrProof)
			more[0][c]++
		}
		expectBound(t, p, x, more, more[0][3], api.OK)
	}
	for _, cell := range []int{0, 3} { // no mode leads to 4 by filling, or to 5 by emptying
		more := potentials()
		more[1][cell] += 1000
		expectBound(t, p, x, more, 55, api.OK)
	}
	for volume := range 2 {
		for mode := range 2 {
			x.Volume, x.Mode = 4+volume, mode
			expectBound(t, p, x, potentials(), potentials()[0][2*volume+mode], api.OK)
		}
	}
}

// P8.3: shapes, then numbers, then validity.
func TestCheckBoundErrors(t *testing.T) {
	p, x := twoModes()
	good := func() [][]int { return [][]int{{38, 31, 54, 55}, {40, 40, 50, 50}} }
	for _, l := range [][][]int{
		nil, {}, good()[:1], append(good(), good()[1]), make([][]int, 2), make([][]int, 1000),
		{good()[0], nil}, {nil, good()[1]}, {good()[0], good()[1][:3]}, {good()[0][:3], good()[1]}, {good()[0], append(good()[1], 0)}, {append(good()[0], 0), good()[1]}, {good()[0], {0}}, {{0, 0}, good()[1]},
		{{1 << 50, 0, 0, 0}}, {{-1, -1, -1, -1}, {-1, -1, -1}}, {good()[0][:3], {1 << 50, 0, 0, 0}}, {{1 << 50, 0, 0}, good()[1]},
	} {
		expectBound(t, p, x, l, 0, api.ErrShape)
	}
	for time := range 2 {
		for cell := range 4 {
			for _, n := range outside(-api.MaxDispatchValue, api.MaxDispatchValue) {
				for _, l := range [][][]int{good(), {make([]int, 4), make([]int, 4)}} {
					l[time][cell] = n
					expectBound(t, p, x, l, 0, api.ErrRange)
				}
			}
		}
	}
	for _, l := range [][][]int{{make([]int, 4), make([]int, 4)}, {good()[1], good()[0]}, {good()[0], good()[0]}, {good()[1], good()[1]}} {
		expectBound(t, p, x, l, 0, api.ErrProof)
	}
}

// P8.3: numbers as large as there may be, in any cell, also where no plan is possible.
func TestCheckBoundOfLargeNumbers(t *testing.T) {
	p, x := twoModes()
	expectBound(t, p, x, [][]int{slices.Repeat([]int{api.MaxDispatchValue}, 4), {40, 40, 50, 50}}, api.MaxDispatchValue, api.OK)
	expectBound(t, p, x, [][]int{slices.Repeat([]int{api.MaxDispatchValue}, 4), {40, api.MaxDispatchValue, 50, 50}}, 0, api.ErrProof)
	expectBound(t, p, x, [][]int{slices.Repeat([]int{api.MaxDispatchValue}, 4), {40, api.MaxDispatchValue - 15, 50, 50}}, api.MaxDispatchValue, api.OK)
	expectBound(t, p, x, [][]int{slices.Repeat([]int{api.MaxDispatchValue}, 4), {40, api.MaxDispatchValue - 14, 50, 50}}, 0, api.ErrProof)
	p.Modes[0].Change, p.Modes[1].Change = 2, -2
	lowest := slices.Repeat([]int{-api.MaxDispatchValue}, 4)
	expectBound(t, p, x, [][]int{lowest, {40, 40, 50, 50}}, -api.MaxDispatchValue, api.OK)
	expectBound(t, p, x, [][]int{{1, 2, 3, 4}, {40, 40, 50, 50}}, 4, api.OK)
	expectBound(t, p, x, [][]int{lowest, {40, 40, 50, 49}}, 0, api.ErrProof)
	x.Worth = -10
	expectBound(t, p, x, [][]int{lowest, {-40, -40, -50, -50}}, -api.MaxDispatchValue, api.OK)
	expectBound(t, p, x, [][]int{lowest, {-40, -41, -50, -50}}, 0, api.ErrProof)
	large, task := largeTask()
	potentials := modelPotentials(random(5), large, task, 0)
	expectBound(t, large, task, potentials, modelBound(large, task, potentials), api.OK)
}

// P8.3: valid potentials with greater numbers than needed, and potentials that are not valid any more.
func TestCheckBoundAgainstModel(t *testing.T) {
	r := random(6)
	valid, invalid := 0, 0
	for range 1500 {
		p, x := randomTask(r, chosen(r, anyKind(r), kind{2, 2, 2, 1, 3}, kind{3, 2, 3, 1, 3}))
		potentials := modelPotentials(r, p, x, chosen(r, 0, 0, 3, 1000))
		expectBound(t, p, x, potentials, modelBound(p, x, potentials), api.OK)
		l := potentials[r.IntN(len(potentials))]
		l[r.IntN(len(l))] += chosen(r, -1, -1, 1, 1, -700, 700)
		if modelIsValid(p, x, potentials) {
			valid++
			expectBound(t, p, x, potentials, modelBound(p, x, potentials), api.OK)
		} else {
			invalid++
			expectBound(t, p, x, potentials, 0, api.ErrProof)
		}
	}
	if valid < 200 || invalid < 200 {
		t.Error(valid, invalid)
	}
}

// expectPotentials tests that PotentialsOf returns valid potentials with the value of the best plan as their bound.
func expectPotentials(t *testing.T, p api.DispatchPlant, x api.DispatchTask, value int, want api.Errno) {
	t.Helper()
	l, e := dispatch.PotentialsOf(p, x)
	if e != want {
		t.Fatal(p, x, e, "want", want)
	}
	if want != api.OK {
		if len(l) > 0 {
			t.Fatal(p, x, l)
		}
		return
	}
	cells := len(p.Modes) * (p.Hi - p.Lo + 1)
	isWrong := func(numbers []int) bool {
		return len(numbers) != cells || slices.Max(numbers) > api.MaxDispatchValue || slices.Min(numbers) < -api.MaxDispatchValue
	}
	if len(l) != len(x.Hours)+1 || slices.ContainsFunc(l, isWrong) || !modelIsValid(p, x, l) || modelBound(p, x, l) != value {
		t.Fatal(p, x, value, l)
	}
	expectBound(t, p, x, l, value, api.OK)
}

// P8.3 and P8.8: PotentialsOf returns valid potentials that CheckBound accepts, with the value of the best plan.
func TestPotentialsOf(t *testing.T) {
	expectPotentials(t, examplePlant(), exampleTask(), 30, api.OK)
	p, x := twoModes()
	expectPotentials(t, p, x, 55, api.OK)
	p, x = largeTask()
	expectPotentials(t, p, x, -10000000000-5*200000000-10*10000, api.OK)
	p, x = parsed(t, "4 4;rest 0 0 0;pump 3 -4 5;turbine -3 3 2", "4 0 1;2 1 0;12 10 1")
	expectPotentials(t, p, x, 0, api.ErrNone)
	// all that can be earned leads to volumes from which no mode leads on
	p, x = parsed(t, "0 39;trap 1 10000 0;way 0 -10000 10000;keep 0 -10000 0", "0 0 -10000;10000 10000 0;10000 10000 0;10000 10000 0;10000 10000 0;10000 10000 0;10000 10000 0;10000 10000 0;10000 10000 0;10000 10000 39")
	expectPotentials(t, p, x, -900000000-10000*39, api.OK)
	x.Volume = 1
	expectPotentials(t, p, x, 0, api.ErrNone)
	r := random(7)
	none := 0
	for range 1500 {
		p, x := randomTask(r, anyKind(r))
		_, value, want := modelBest(p, x, possiblePlans(p, x))
		expectPotentials(t, p, x, value, want)
		if want == api.ErrNone {
			none++
		}
	}
	if none < 200 || none > 1300 {
		t.Error(none)
	}
}

// P8.8: no possible plan is worth more than the bound of valid potentials.
func TestNoPlanIsWorthMoreThanBounds(t *testing.T) {
	r := random(8)
	for range 300 {
		p, x := randomTask(r, anyKind(r))
		potentials := modelPotentials(r, p, x, chosen(r, 0, 5, 1000))
		bound, e := dispatch.CheckBound(p, x, potentials)
		if e != api.OK {
			t.Fatal(p, x, potentials, e)
		}
		for _, plan := range possiblePlans(p, x) {
			if n, e := dispatch.ValueOf(p, x, plan); n > bound || e != api.OK {
				t.Fatal(p, x, plan, n, e, bound)
			}
		}
	}
}
