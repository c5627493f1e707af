package dispatch_test

import (
	"math"
	"math/rand/v2"
	"reflect"
	"slices"
	"testing"

	"guidevane/api"
	"guidevane/dispatch"
)

func call(results ...any) []any {
	return results
}

// failed tells whether results are zero, except for the last one, which is an error.
func failed(results []any, want api.Errno) bool {
	last := len(results) - 1
	for _, result := range results[:last] {
		v := reflect.ValueOf(result)
		if !v.IsZero() && (v.Kind() != reflect.Slice || v.Len() > 0) {
			return false
		}
	}
	return results[last] == want
}

// ofPlan is every function with a plan. The reserve is the mode 0.
func ofPlan(p api.DispatchPlant, t api.DispatchTask, plan []int) [][]any {
	return slices.Concat([][]any{
		call(dispatch.VolumesOf(p, t, plan)),
		call(dispatch.ValueOf(p, t, plan)),
		call(dispatch.StartsOf(p, t, plan)),
	}, ofReserve(p, t, api.DispatchReserve{Plan: plan}))
}

func ofReserve(p api.DispatchPlant, t api.DispatchTask, r api.DispatchReserve) [][]any {
	return [][]any{call(dispatch.ReserveOf(p, t, r)), call(dispatch.PromisedIn(p, t, r))}
}

// ofTask is every function with a task, but for CheckTask. The other arguments are good for the task of the examples, or as wrong as possible.
func ofTask(p api.DispatchPlant, t api.DispatchTask) [][]any {
	potentials := make([][]int, len(t.Hours)+1)
	return slices.Concat(
		ofPlan(p, t, []int{rest, rest}), ofPlan(p, t, nil), ofPlan(p, t, []int{-1, 9}), ofPlan(p, t, make([]int, len(t.Hours))),
		ofReserve(p, t, api.DispatchReserve{Plan: []int{-1}, Mode: -1}), ofReserve(p, t, api.DispatchReserve{Plan: []int{rest, turbine}, Mode: 9}),
		[][]any{
			call(dispatch.BestPlan(p, t)), call(dispatch.PotentialsOf(p, t)),
			call(dispatch.CheckBound(p, t, nil)), call(dispatch.CheckBound(p, t, potentials)), call(dispatch.CheckBound(p, t, [][]int{{math.MaxInt}})),
			call(dispatch.ReachableAt(p, t, 0)), call(dispatch.ReachableAt(p, t, -1)), call(dispatch.ReachableAt(p, t, math.MaxInt)),
			call(dispatch.BestWith(p, t, api.DispatchHold{})), call(dispatch.BestWith(p, t, api.DispatchHold{Mode: -1, Hours: -1})), call(dispatch.BestWith(p, t, api.DispatchHold{Mode: turbine, Hours: 11})),
		})
}

// P8.2 to P8.4: the error of the plant comes first, also before all those of the task, and all else is zero.
func TestBadPlants(t *testing.T) {
	for _, c := range badPlants() {
		for _, x := range []api.DispatchTask{exampleTask(), {}, {Volume: -1, Mode: -1}} {
			for i, got := range ofTask(c.plant, x) {
				if !failed(got, c.want) {
					t.Fatalf("%+v %+v %v: %v, want %v", c.plant, x, i, got, c.want)
				}
			}
		}
	}
}

// P8.2 to P8.4: the error of the task comes before all others.
func TestBadTasks(t *testing.T) {
	for _, c := range badTasks() {
		for i, got := range ofTask(examplePlant(), c.task) {
			if !failed(got, c.want) {
				t.Fatalf("%+v %v: %v, want %v", c.task, i, got, c.want)
			}
		}
	}
}

// P8.2 and P8.4: the error of the plan comes before that of the reserve.
func TestBadPlans(t *testing.T) {
	p, x := examplePlant(), exampleTask()
	for _, c := range badPlans() {
		results := slices.Concat(
			ofPlan(p, x, c.plan),
			ofReserve(p, x, api.DispatchReserve{Plan: c.plan, Mode: turbine}),
			ofReserve(p, x, api.DispatchReserve{Plan: c.plan, Mode: -1}),
			ofReserve(p, x, api.DispatchReserve{Plan: c.plan, Mode: 3}))
		for i, got := range results {
			if !failed(got, c.want) {
				t.Errorf("%v %v: %v, want %v", c.plan, i, got, c.want)
			}
		}
	}
}

// strange returns numbers at, around and far beyond all limits.
func strange(r *rand.Rand) int {
	return chosen(r, math.MinInt, math.MinInt+1, -1000000000001, -1000000000000, -1000001, -10001, -10000, -2, -1, 0, 0, 0, 1, 1, 2, 3, 4, 5, 9, 10, 11, 39, 40, 41, 10000, 10001, 100000, 1000000, 1000001, 1000000000000, 1000000000001, math.MaxInt-1, math.MaxInt)
}

func strangeNumbers(r *rand.Rand, most int) []int {
	l := make([]int, r.IntN(most+1))
	for i := range l {
		l[i] = chosen(r, strange(r), r.IntN(3))
	}
	return l
}

// strangeTask returns a plant and a task that often have an error.
func strangeTask(r *rand.Rand) (api.DispatchPlant, api.DispatchTask) {
	p, t := randomTask(r, anyKind(r))
	m, h := &p.Modes[r.IntN(len(p.Modes))], &t.Hours[r.IntN(len(t.Hours))]
	fields := []*int{&p.Lo, &p.Hi, &m.Change, &m.Energy, &m.Start, &t.Volume, &t.Mode, &t.Worth, &h.Buy, &h.Sell, &h.Inflow}
	for range r.IntN(3) {
		*chosen(r, fields...) = strange(r)
	}
	switch r.IntN(20) {
	case 0:
		p.Modes = nil
	case 1:
		t.Hours = nil
	case 2:
		p.Modes = slices.Repeat(p.Modes, 70)
	case 3:
		t.Hours = slices.Repeat(t.Hours, 70)
	case 4:
		m.Name = chosen(r, badNames()...)
	}
	return p, t
}

// R2: no call panics or goes on for ever, whatever its arguments are.
func TestAnyArguments(t *testing.T) {
	r := random(11)
	for range 3000 {
		p, x := strangeTask(r)
		ofTask(p, x)
		dispatch.CheckTask(p, x)
		ofPlan(p, x, strangeNumbers(r, 12))
		ofReserve(p, x, api.DispatchReserve{Plan: make([]int, len(x.Hours)), Mode: strange(r)})
		dispatch.ReachableAt(p, x, strange(r))
		dispatch.BestWith(p, x, api.DispatchHold{Mode: strange(r), Hours: strange(r)})
		dispatch.BestWith(p, x, api.DispatchHold{Hours: strange(r)})
		potentials, _ := dispatch.PotentialsOf(p, x)
		for range r.IntN(3) {
			potentials = append(potentials, strangeNumbers(r, 200))
		}
		dispatch.CheckBound(p, x, potentials)
		for _, l := range potentials {
			for range r.IntN(3) * min(1, len(l)) {
				l[r.IntN(len(l))] = strange(r)
			}
		}
		dispatch.CheckBound(p, x, potentials)
		dispatch.Followed(strange(r), strange(r), strangeNumbers(r, 400))
		dispatch.SettledOf(strangeNumbers(r, 400), strangeNumbers(r, 400))
		dispatch.SettledOf(strangeNumbers(r, 2), strangeNumbers(r, 2))
		l := randomRevisions(r, between(r, 0, 9))
		if len(l) > 0 && r.IntN(2) == 0 {
			l[0].Due, l[len(l)-1].Days = strange(r), strange(r)
		}
		ofRevisions(l, strangeNumbers(r, 9))
		dispatch.ParsePlant(dispatch.FormatPlant(p))
		dispatch.ParseTask(dispatch.FormatTask(x))
	}
}

// roomy returns a slice with memory behind its end.
func roomy[T any](l []T) []T {
	return slices.Grow(slices.Clone(l), 9)
}

// exampleRevisions are the revisions of the examples.
func exampleRevisions() []api.DispatchRevision {
	return []api.DispatchRevision{{Name: "a", Due: 5, Days: 3}, {Name: "b", Due: 4, Days: 2}, {Name: "c", Due: 9, Days: 5}}
}

// ofRevisions is every function with revisions.
func ofRevisions(l []api.DispatchRevision, order []int) [][]any {
	return [][]any{call(dispatch.LatenessOf(l, order)), call(dispatch.BestOrder(l)), call(dispatch.GroupOf(l)), call(dispatch.CheckRevisions(l))}
}

// arguments are slices that are given to functions.
type arguments struct {
	plant            api.DispatchPlant
	task             api.DispatchTask
	plan, order      []int
	wanted, measured []int
	potentials       [][]int
	revisions        []api.DispatchRevision
}

// newArguments returns arguments whose slices are made by grow.
func newArguments(grow func(l []int) []int) arguments {
	a := arguments{examplePlant(), exampleTask(), grow([]int{rest, turbine}), grow([]int{1, 0, 2}), grow([]int{12, 12, 3}), grow([]int{5, 10, 5}), nil, exampleRevisions()}
	a.plant.Modes, a.task.Hours, a.revisions = roomy(a.plant.Modes), roomy(a.task.Hours), roomy(a.revisions)
	for _, numbers := range modelPotentials(random(12), a.plant, a.task, 0) {
		a.potentials = append(a.potentials, grow(numbers))
	}
	return a
}

// results returns all results of all functions.
func (a arguments) results() []any {
	plan := api.DispatchReserve{Plan: a.plan, Mode: turbine}
	lists := slices.Concat(ofTask(a.plant, a.task), ofPlan(a.plant, a.task, a.plan), ofReserve(a.plant, a.task, plan), ofRevisions(a.revisions, a.order), [][]any{
		call(dispatch.CheckPlant(a.plant)), call(dispatch.CheckTask(a.plant, a.task)), call(dispatch.CheckBound(a.plant, a.task, a.potentials)),
		call(dispatch.ReachableAt(a.plant, a.task, 1)), call(dispatch.BestWith(a.plant, a.task, api.DispatchHold{Mode: turbine, Hours: 1})),
		call(dispatch.Followed(0, 5, a.wanted)), call(dispatch.Followed(12, 0, a.wanted[:1])), call(dispatch.SettledOf(a.wanted, a.measured)),
		call(dispatch.FormatPlant(a.plant), dispatch.FormatTask(a.task)), call(dispatch.ParsePlant("0 10;rest 0 0 0;pump 3 -4 5")), call(dispatch.ParseTask("4 0 1;2 1 0;12 10 1")),
	})
	var results []any
	for _, l := range lists {
		results = append(results, l...)
	}
	return results
}

// spoil writes over all memory of a slice, also beyond its end.
func spoil[T any](l []T) {
	clear(l[:cap(l)])
}

// R3 and R4: calls change no argument, and what is done with a result changes neither any argument nor a later result.
func TestMemory(t *testing.T) {
	a, given := newArguments(slices.Clone[[]int]), newArguments(slices.Clone[[]int])
	before := a.results()
	for _, result := range a.results() {
		switch l := result.(type) {
		case []int:
			spoil(l)
		case [][]int:
			for _, numbers := range l {
				spoil(numbers)
			}
			spoil(l)
		case api.DispatchPlant:
			spoil(l.Modes)
		case api.DispatchTask:
			spoil(l.Hours)
		}
	}
	if !reflect.DeepEqual(a, given) {
		t.Error("an argument was changed", a)
	}
	if again := a.results(); !reflect.DeepEqual(before, again) {
		t.Error(before, again)
	}
}

// R3: calls write nothing behind the ends of the slices that are their arguments.
func TestMemoryBehindArguments(t *testing.T) {
	a := newArguments(roomy[int])
	a.results()
	behind := [][]int{a.plan[2:cap(a.plan)], a.order[3:cap(a.order)], a.wanted[3:cap(a.wanted)], a.measured[3:cap(a.measured)]}
	for _, l := range a.potentials {
		behind = append(behind, l[len(l):cap(l)])
	}
	for i, l := range behind {
		if slices.ContainsFunc(l, func(n int) bool { return n != 0 }) {
			t.Error(i, l)
		}
	}
	for i, l := range []any{a.plant.Modes[3:cap(a.plant.Modes)], a.task.Hours[2:cap(a.task.Hours)], a.revisions[3:cap(a.revisions)]} {
		for k, v := 0, reflect.ValueOf(l); k < v.Len(); k++ {
			if !v.Index(k).IsZero() {
				t.Error(i, l)
			}
		}
	}
}

// R3: no two slices of potentials share memory.
func TestMemoryOfPotentials(t *testing.T) {
	p, x := examplePlant(), exampleTask()
	want, _ := dispatch.PotentialsOf(p, x)
	for i := range want {
		l, e := dispatch.PotentialsOf(p, x)
		if e != api.OK {
			t.Fatal(e)
		}
		spoil(l[i])
		for k := range l {
			if k != i && !slices.Equal(l[k], want[k]) {
				t.Error(i, k, l[k])
			}
		}
	}
}
