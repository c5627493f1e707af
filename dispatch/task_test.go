package dispatch_test

import (
	"math"
	"slices"
	"strconv"
	"testing"

	"guidevane/api"
	"guidevane/dispatch"
)

// The modes of the plant of the examples.
const (
	rest    = 0
	pump    = 1
	turbine = 2
)

// examplePlant is the plant of the examples.
func examplePlant() api.DispatchPlant {
	return api.DispatchPlant{Hi: 10, Modes: []api.DispatchMode{{Name: "rest"}, {Name: "pump", Change: 3, Energy: -4, Start: 5}, {Name: "turbine", Change: -3, Energy: 3, Start: 2}}}
}

// exampleTask is the task of the examples.
func exampleTask() api.DispatchTask {
	return api.DispatchTask{Volume: 4, Worth: 1, Hours: []api.DispatchHour{{Buy: 2, Sell: 1}, {Buy: 12, Sell: 10, Inflow: 1}}}
}

// largeTask returns a plant and a task with as many modes and hours as there may be, and numbers as large as there may be.
func largeTask() (api.DispatchPlant, api.DispatchTask) {
	p := api.DispatchPlant{Lo: api.MaxDispatchVolume - 39, Hi: api.MaxDispatchVolume}
	for i, n := range []int{-10000, 10000, 0, 10000, -10000} {
		p.Modes = append(p.Modes, api.DispatchMode{Name: "abcdefghijk" + strconv.Itoa(i), Change: n, Energy: -n, Start: 10000})
	}
	t := api.DispatchTask{Volume: api.MaxDispatchVolume, Mode: 4, Worth: -10000}
	for range 5 {
		t.Hours = append(t.Hours, api.DispatchHour{Buy: 10000, Sell: 10000, Inflow: -10000}, api.DispatchHour{Buy: -10000, Sell: -10000, Inflow: 10000})
	}
	return p, t
}

func plantWith(change func(p *api.DispatchPlant)) api.DispatchPlant {
	p := examplePlant()
	change(&p)
	return p
}

func taskWith(change func(t *api.DispatchTask)) api.DispatchTask {
	t := exampleTask()
	change(&t)
	return t
}

// outside is numbers around a range that are not in it.
func outside(lo, hi int) []int {
	return []int{lo - 1, hi + 1, lo - 2, hi + 1000, math.MinInt, math.MaxInt}
}

// badNames are no names.
func badNames() []string {
	return []string{"", " ", "abcdefghijklm", "1a", "-", "-a", "a b", " a", "a ", "a_", "a\u00e9", "\u00e9", "@", "[", "`", "{", "a@", "a[", "a`", "a{", "a/", "a:", "a\x00", "a;", "a,", "\xff"}
}

// goodNames are names.
func goodNames() []string {
	return []string{"a", "z", "A", "Z", "a-", "a0", "a9", "abcdefghijkl", "A-1-2-3-4-5-", "aa", "rest"}
}

type badPlant struct {
	plant api.DispatchPlant
	index int
	want  api.Errno
}

// badPlants returns plants for each error of CheckPlant, and for each order of two errors.
func badPlants() []badPlant {
	return slices.Concat(badLimits(), badModes())
}

func badLimits() []badPlant {
	var l []badPlant
	add := func(want api.Errno, lo, hi int) {
		for _, modes := range [][]api.DispatchMode{examplePlant().Modes, nil, make([]api.DispatchMode, 6), {{Name: "a", Change: -10001}}} {
			l = append(l, badPlant{api.DispatchPlant{Lo: lo, Hi: hi, Modes: modes}, 0, want})
		}
	}
	for _, n := range outside(0, api.MaxDispatchVolume) {
		add(api.ErrRange, n, 10)
		add(api.ErrRange, 10, n)
		add(api.ErrRange, 0, n)
		add(api.ErrRange, n, n)
	}
	add(api.ErrRange, -1, 100)
	add(api.ErrRange, math.MaxInt, math.MinInt)
	add(api.ErrRange, math.MinInt, math.MaxInt)
	for _, x := range [][2]int{{1, 0}, {10, 0}, {1000, 900}, {1000000, 0}, {1000000, 999999}, {7, 6}} {
		add(api.ErrOrder, x[0], x[1])
	}
	for _, x := range [][2]int{{0, 40}, {0, 41}, {0, 1000000}, {7, 47}, {999960, 1000000}} {
		add(api.ErrLarge, x[0], x[1])
	}
	bad := api.DispatchMode{Name: "1", Change: -10001, Energy: 10001, Start: -1}
	for _, hi := range []int{0, 10, 39} {
		l = append(l,
			badPlant{api.DispatchPlant{Hi: hi}, 0, api.ErrShape},
			badPlant{api.DispatchPlant{Hi: hi, Modes: []api.DispatchMode{}}, 0, api.ErrShape},
			badPlant{api.DispatchPlant{Hi: hi, Modes: modesOf(6)}, 0, api.ErrLarge},
			badPlant{api.DispatchPlant{Hi: hi, Modes: modesOf(1000)}, 0, api.ErrLarge},
			badPlant{api.DispatchPlant{Hi: hi, Modes: slices.Repeat([]api.DispatchMode{bad}, 6)}, 0, api.ErrLarge})
	}
	return l
}

// modesOf returns so many modes without errors.
func modesOf(n int) []api.DispatchMode {
	var l []api.DispatchMode
	for i := range n {
		l = append(l, api.DispatchMode{Name: "m" + strconv.Itoa(i), Change: i, Energy: -i, Start: i})
	}
	return l
}

func badModes() []badPlant {
	var l []badPlant
	for at := range 5 {
		last := []api.DispatchMode{modesOf(5)[4], {Name: "1"}, {Name: "m0"}, {Name: "other", Change: 10001}}
		if at == 4 {
			last = last[:1]
		}
		add := func(want api.Errno, change func(m *api.DispatchMode)) {
			for _, m := range last {
				modes := append(modesOf(4), m)
				change(&modes[at])
				l = append(l, badPlant{api.DispatchPlant{Lo: 3, Hi: 42, Modes: modes}, at, want})
			}
		}
		for _, name := range badNames() {
			add(api.ErrName, func(m *api.DispatchMode) { m.Name = name })
			add(api.ErrName, func(m *api.DispatchMode) { *m = api.DispatchMode{Name: name, Change: 10001, Energy: 10001, Start: -1} })
		}
		for earlier := range at {
			name := modesOf(5)[earlier].Name
			add(api.ErrExists, func(m *api.DispatchMode) { m.Name = name })
			add(api.ErrExists, func(m *api.DispatchMode) { *m = api.DispatchMode{Name: name, Change: 10001, Energy: 10001, Start: -1} })
		}
		for _, n := range outside(-10000, 10000) {
			add(api.ErrRange, func(m *api.DispatchMode) { m.Change = n })
			add(api.ErrRange, func(m *api.DispatchMode) { m.Energy = n })
		}
		for _, n := range outside(0, 10000) {
			add(api.ErrRange, func(m *api.DispatchMode) { m.Start = n })
		}
	}
	return l
}

// goodPlants are plants without errors, at their limits.
func goodPlants() []api.DispatchPlant {
	large, _ := largeTask()
	l := []api.DispatchPlant{
		examplePlant(), large,
		{Modes: modesOf(1)}, {Hi: 39, Modes: modesOf(5)}, {Lo: 1000000, Hi: 1000000, Modes: modesOf(2)}, {Lo: 7, Hi: 46, Modes: modesOf(3)},
		{Modes: []api.DispatchMode{{Name: "a", Change: 10000, Energy: 10000, Start: 10000}, {Name: "A", Change: -10000, Energy: -10000}}},
		{Modes: []api.DispatchMode{{Name: "a"}, {Name: "b"}, {Name: "a-"}, {Name: "ab"}, {Name: "B"}}},
	}
	for _, name := range goodNames() {
		l = append(l, api.DispatchPlant{Modes: []api.DispatchMode{{Name: "other"}, {Name: name}}})
	}
	return l
}

// P8.1; edge case: a mode of rest is not required.
func TestCheckPlant(t *testing.T) {
	for _, c := range badPlants() {
		if i, e := dispatch.CheckPlant(c.plant); i != c.index || e != c.want {
			t.Errorf("%+v: %v %v, want %v %v", c.plant, i, e, c.index, c.want)
		}
	}
	for _, p := range goodPlants() {
		if i, e := dispatch.CheckPlant(p); i != 0 || e != api.OK {
			t.Errorf("%+v: %v %v", p, i, e)
		}
	}
}

type badTask struct {
	task  api.DispatchTask
	index int
	want  api.Errno
}

// badTasks returns tasks of the plant of the examples for each error of CheckTask, and for each order of two errors.
func badTasks() []badTask {
	return slices.Concat(badBeginnings(), badHours())
}

func badBeginnings() []badTask {
	var l []badTask
	add := func(want api.Errno, change func(t *api.DispatchTask)) {
		l = append(l, badTask{taskWith(change), 0, want})
	}
	for _, n := range outside(0, 10) {
		add(api.ErrRange, func(t *api.DispatchTask) { t.Volume = n })
		add(api.ErrRange, func(t *api.DispatchTask) { t.Volume, t.Mode = n, 3 })
		add(api.ErrRange, func(t *api.DispatchTask) { *t = api.DispatchTask{Volume: n, Mode: -1, Worth: 10001} })
	}
	for _, n := range outside(0, 2) {
		add(api.ErrMissing, func(t *api.DispatchTask) { t.Mode = n })
		add(api.ErrMissing, func(t *api.DispatchTask) { t.Mode, t.Worth = n, 10001 })
		add(api.ErrMissing, func(t *api.DispatchTask) { t.Mode, t.Hours = n, nil })
	}
	for _, n := range outside(-10000, 10000) {
		add(api.ErrRange, func(t *api.DispatchTask) { t.Worth = n })
		add(api.ErrRange, func(t *api.DispatchTask) { t.Worth, t.Hours = n, nil })
		add(api.ErrRange, func(t *api.DispatchTask) { t.Worth, t.Hours = n, make([]api.DispatchHour, 11) })
		add(api.ErrRange, func(t *api.DispatchTask) { t.Worth, t.Hours[0].Sell = n, 3 })
	}
	add(api.ErrShape, func(t *api.DispatchTask) { t.Hours = nil })
	add(api.ErrShape, func(t *api.DispatchTask) { t.Hours = []api.DispatchHour{} })
	for _, n := range []int{11, 12, 1000} {
		add(api.ErrLarge, func(t *api.DispatchTask) { t.Hours = make([]api.DispatchHour, n) })
		add(api.ErrLarge, func(t *api.DispatchTask) { t.Hours = slices.Repeat([]api.DispatchHour{{Buy: 10001}}, n) })
		add(api.ErrLarge, func(t *api.DispatchTask) { t.Hours = slices.Repeat([]api.DispatchHour{{Sell: 1}}, n) })
	}
	return l
}

func badHours() []badTask {
	var l []badTask
	for at := range 10 {
		add := func(want api.Errno, h api.DispatchHour) {
			for _, later := range []api.DispatchHour{{}, {Sell: 1}, {Buy: -10001}} {
				hours := make([]api.DispatchHour, 10)
				hours[9], hours[at] = later, h
				l = append(l, badTask{taskWith(func(t *api.DispatchTask) { t.Hours = hours }), at, want})
			}
		}
		for _, n := range outside(-10000, 10000) {
			add(api.ErrRange, api.DispatchHour{Buy: n, Sell: -10000})
			add(api.ErrRange, api.DispatchHour{Buy: 10000, Sell: n})
			add(api.ErrRange, api.DispatchHour{Inflow: n})
			add(api.ErrRange, api.DispatchHour{Buy: n, Sell: 10000})
			add(api.ErrRange, api.DispatchHour{Buy: 1, Sell: 2, Inflow: n})
		}
		for _, x := range [][2]int{{0, 1}, {-1, 0}, {-10000, 10000}, {9999, 10000}, {-10000, -9999}} {
			add(api.ErrOrder, api.DispatchHour{Buy: x[0], Sell: x[1]})
		}
	}
	return l
}

// P8.1; edge case: prices may be below 0.
func TestCheckTask(t *testing.T) {
	for _, c := range badTasks() {
		if i, e := dispatch.CheckTask(examplePlant(), c.task); i != c.index || e != c.want {
			t.Errorf("%+v: %v %v, want %v %v", c.task, i, e, c.index, c.want)
		}
	}
	ok := func(p api.DispatchPlant, x api.DispatchTask) {
		t.Helper()
		if i, e := dispatch.CheckTask(p, x); i != 0 || e != api.OK {
			t.Errorf("%+v %+v: %v %v", p, x, i, e)
		}
	}
	ok(examplePlant(), exampleTask())
	ok(largeTask())
	for _, n := range []int{0, 10} {
		ok(examplePlant(), taskWith(func(t *api.DispatchTask) { t.Volume, t.Mode = n, 2 }))
	}
	for _, n := range []int{-10000, 10000} {
		hours := slices.Repeat([]api.DispatchHour{{Buy: n, Sell: n, Inflow: n}, {Buy: 10000, Sell: -10000, Inflow: -n}}, 5)
		ok(examplePlant(), taskWith(func(t *api.DispatchTask) { t.Worth, t.Hours = n, hours }))
		ok(examplePlant(), taskWith(func(t *api.DispatchTask) { t.Worth, t.Hours = n, hours[:1] }))
	}
}

// P8.1: the error of the plant comes first, and names no hour. The limits of the volume and the mode are those of the plant.
func TestCheckTaskOfPlants(t *testing.T) {
	for _, c := range badPlants() {
		tasks := []api.DispatchTask{exampleTask(), {}, {Volume: -1, Mode: -1, Worth: 10001}, {Volume: 5, Hours: []api.DispatchHour{{}, {Sell: 1}}}}
		for _, x := range tasks {
			if i, e := dispatch.CheckTask(c.plant, x); i != 0 || e != c.want {
				t.Errorf("%+v %+v: %v %v, want %v", c.plant, x, i, e, c.want)
			}
		}
	}
	for _, p := range goodPlants() {
		for _, volume := range []int{p.Lo - 1, p.Lo, p.Hi, p.Hi + 1} {
			for _, mode := range []int{-1, 0, len(p.Modes) - 1, len(p.Modes)} {
				want := api.OK
				if volume < p.Lo || volume > p.Hi {
					want = api.ErrRange
				} else if mode < 0 || mode == len(p.Modes) {
					want = api.ErrMissing
				}
				x := taskWith(func(t *api.DispatchTask) { t.Volume, t.Mode = volume, mode })
				if i, e := dispatch.CheckTask(p, x); i != 0 || e != want {
					t.Errorf("%+v %+v: %v %v, want %v", p, x, i, e, want)
				}
			}
		}
	}
}
