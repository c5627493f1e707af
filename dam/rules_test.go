package dam_test

import (
	"slices"
	"testing"

	"guidevane/api"
	"guidevane/dam"
)

// exampleRules are the rules of the examples.
func exampleRules() api.DamRules {
	return api.DamRules{Up: []int{50, 100}, Down: []int{30, 80}, Hold: 2, Persons: []api.DamPerson{{Name: "ann", Rank: 2}, {Name: "bob", Rank: 1}}}
}

// largeRules are rules with as many steps and persons as there may be, and numbers as large as they may be.
func largeRules() api.DamRules {
	const most = api.MaxDamDeviation
	r := api.DamRules{Up: []int{most - 4, most - 3, most - 2, most - 1, most}, Down: []int{1, 1, most - 3, most - 1, most}, Hold: api.MaxDamCalm}
	for i, name := range append(goodNames()[1:], "z9") {
		r.Persons = append(r.Persons, api.DamPerson{Name: name, Rank: 1 + i%5})
	}
	return r
}

// rulesWith returns the rules of the examples with three steps, three persons and a change.
func rulesWith(change func(r *api.DamRules)) api.DamRules {
	r := exampleRules()
	r.Up, r.Down = append(r.Up, 120), append(r.Down, 80)
	r.Persons = append(r.Persons, api.DamPerson{Name: "eve", Rank: 3})
	change(&r)
	return r
}

type badRule struct {
	rules api.DamRules
	index int
	want  api.Errno
}

// badRules returns rules for each error of CheckRules, and for orders of two errors.
func badRules() []badRule {
	return slices.Concat(badShapes(), badSteps(), badPersons())
}

func badShapes() []badRule {
	var l []badRule
	wrong := []int{0, 0, 0, 0, 0, 0}
	for _, persons := range [][]api.DamPerson{nil, {{Name: "1"}}, make([]api.DamPerson, 11)} {
		for _, hold := range []int{2, -1} {
			for _, c := range []struct {
				up, down []int
				want     api.Errno
			}{
				{nil, nil, api.ErrShape},
				{[]int{}, []int{}, api.ErrShape},
				{nil, []int{30}, api.ErrShape},
				{[]int{50}, nil, api.ErrShape},
				{[]int{50, 100}, []int{30}, api.ErrShape},
				{[]int{50}, []int{30, 80}, api.ErrShape},
				{wrong, wrong[:5], api.ErrShape},
				{wrong[:5], wrong, api.ErrShape},
				{wrong, wrong, api.ErrLarge},
				{[]int{1, 2, 3, 4, 5, 6}, []int{1, 2, 3, 4, 5, 6}, api.ErrLarge},
				{make([]int, 500), make([]int, 500), api.ErrLarge},
			} {
				l = append(l, badRule{api.DamRules{Up: c.up, Down: c.down, Hold: hold, Persons: persons}, 0, c.want})
			}
		}
	}
	return l
}

func badSteps() []badRule {
	var l []badRule
	for at := range 3 {
		add := func(want api.Errno, up, down int) {
			l = append(l, badRule{rulesWith(func(r *api.DamRules) { r.Up[at], r.Down[at] = up, down }), at, want})
			l = append(l, badRule{rulesWith(func(r *api.DamRules) { r.Up[at], r.Down[at], r.Hold = up, down, -1 }), at, want})
		}
		for _, n := range outside(1, api.MaxDamDeviation) {
			add(api.ErrRange, n, 30)
			add(api.ErrRange, 1000000, n)
			add(api.ErrRange, n, n)
		}
		add(api.ErrForm, 110, 111)
		add(api.ErrForm, 1, 1000000)
	}
	order := func(at int, up, down []int) {
		l = append(l, badRule{rulesWith(func(r *api.DamRules) { r.Up, r.Down = up, down }), at, api.ErrOrder})
	}
	order(1, []int{50, 50, 120}, []int{30, 40, 80})
	order(1, []int{50, 49, 120}, []int{30, 40, 80})
	order(1, []int{50, 60, 120}, []int{30, 29, 80})
	order(1, []int{50, 50, 0}, []int{30, 30, 0})
	order(2, []int{50, 60, 60}, []int{30, 40, 50})
	order(2, []int{50, 60, 55}, []int{30, 40, 50})
	order(2, []int{50, 60, 70}, []int{30, 40, 39})
	order(2, []int{50, 60, 70}, []int{30, 40, 30})
	l = append(l, badRule{api.DamRules{Up: []int{50, 50}, Down: []int{30, 51}}, 1, api.ErrForm})
	l = append(l, badRule{api.DamRules{Up: []int{50, 0}, Down: []int{51, 30}}, 0, api.ErrForm})
	return l
}

func badPersons() []badRule {
	var l []badRule
	add := func(index int, want api.Errno, change func(r *api.DamRules)) {
		l = append(l, badRule{rulesWith(change), index, want})
	}
	for _, n := range outside(0, api.MaxDamCalm) {
		add(0, api.ErrRange, func(r *api.DamRules) { r.Hold = n })
		add(0, api.ErrRange, func(r *api.DamRules) { r.Hold, r.Persons = n, make([]api.DamPerson, 11) })
		add(0, api.ErrRange, func(r *api.DamRules) { r.Hold, r.Persons[2].Name = n, "" })
	}
	for _, n := range []int{11, 12, 300} {
		add(0, api.ErrLarge, func(r *api.DamRules) { r.Persons = make([]api.DamPerson, n) })
	}
	for at := range 3 {
		for _, name := range badNames() {
			add(at, api.ErrName, func(r *api.DamRules) { r.Persons[at].Name = name })
			add(at, api.ErrName, func(r *api.DamRules) { r.Persons[at] = api.DamPerson{Name: name} })
		}
		for _, n := range outside(1, 3) {
			add(at, api.ErrRange, func(r *api.DamRules) { r.Persons[at].Rank = n })
		}
		for before := range at {
			add(at, api.ErrExists, func(r *api.DamRules) { r.Persons[at].Name = r.Persons[before].Name })
			add(at, api.ErrExists, func(r *api.DamRules) { r.Persons[at] = api.DamPerson{Name: r.Persons[before].Name, Rank: 9} })
		}
	}
	add(1, api.ErrRange, func(r *api.DamRules) { r.Persons[1].Rank, r.Persons[2].Name = 4, "ann" })
	return l
}

// goodRules are rules without errors.
func goodRules() []api.DamRules {
	l := []api.DamRules{exampleRules(), largeRules(), {Up: []int{1}, Down: []int{1}}, {Up: []int{7, 8}, Down: []int{7, 7}, Persons: []api.DamPerson{{Name: "a", Rank: 2}}}, rulesWith(func(r *api.DamRules) {})}
	r := random(9)
	for range 300 {
		l = append(l, randomRules(r))
	}
	return l
}

// P9.3.
func TestCheckRules(t *testing.T) {
	for _, r := range goodRules() {
		if i, e := dam.CheckRules(r); i != 0 || e != api.OK {
			t.Error(r, i, e)
		}
	}
	for _, name := range goodNames() {
		if i, e := dam.CheckRules(rulesWith(func(r *api.DamRules) { r.Persons[1].Name = name })); i != 0 || e != api.OK {
			t.Error(name, i, e)
		}
	}
	for _, c := range badRules() {
		if i, e := dam.CheckRules(c.rules); i != c.index || e != c.want {
			t.Error(c, i, e)
		}
	}
}
