package dam_test

import (
	"slices"
	"testing"

	"guidevane/api"
	"guidevane/dam"
)

// at returns a state.
func at(step, calm, deviation int) api.DamState {
	return api.DamState{Step: step, Calm: calm, Deviation: deviation}
}

// P9.3, example 5, and the edge case that a deviation which is exactly Up asks for its step.
func TestAskedFor(t *testing.T) {
	for deviation, want := range map[int]int{0: 0, 49: 0, 50: 1, 51: 1, 60: 1, 99: 1, 100: 2, 101: 2, 120: 2, api.MaxDamDeviation: 2} {
		if k, e := dam.AskedFor(exampleRules(), deviation); k != want || e != api.OK {
			t.Error(deviation, k, e)
		}
	}
	for deviation, want := range map[int]int{0: 0, 999995: 0, 999996: 1, 999997: 2, 999998: 3, 999999: 4, 1000000: 5} {
		if k, e := dam.AskedFor(largeRules(), deviation); k != want || e != api.OK {
			t.Error(deviation, k, e)
		}
	}
}

// P9.3 and the edge case that a deviation which is exactly Down is not calm.
func TestWatched(t *testing.T) {
	for _, c := range []struct {
		s         api.DamState
		deviation int
		want      api.DamState
	}{
		{at(0, 0, 0), 0, at(0, 0, 0)},
		{at(0, 0, 70), 29, at(0, 0, 29)},
		{at(0, 0, 0), 49, at(0, 0, 49)},
		{at(0, 0, 0), 50, at(1, 0, 50)},
		{at(0, 0, 10), 60, at(1, 0, 60)},
		{at(0, 0, 10), 120, at(2, 0, 120)},
		{at(1, 0, 60), 20, at(1, 1, 20)},
		{at(1, 1, 20), 10, at(1, 2, 10)},
		{at(1, 1, 20), 29, at(1, 2, 29)},
		{at(1, 1, 20), 30, at(1, 0, 30)},
		{at(1, 1, 20), 49, at(1, 0, 49)},
		{at(1, 1, 20), 50, at(1, 0, 50)},
		{at(1, 7, 20), 99, at(1, 0, 99)},
		{at(1, 7, 20), 100, at(2, 0, 100)},
		{at(2, 0, 20), 79, at(2, 1, 79)},
		{at(2, 5, 20), 80, at(2, 0, 80)},
		{at(2, 5, 20), 60, at(2, 6, 60)},
		{at(2, 5, 20), 1000000, at(2, 0, 1000000)},
		{at(2, 999999, 20), 0, at(2, 1000000, 0)},
		{at(2, 1000000, 20), 0, at(2, 1000000, 0)},
		{at(2, 1000000, 20), 80, at(2, 0, 80)},
	} {
		if s, e := dam.Watched(exampleRules(), c.s, c.deviation); s != c.want || e != api.OK {
			t.Error(c, s, e)
		}
	}
}

// P9.3 and example 5.
func TestLowered(t *testing.T) {
	lower := func(s api.DamState, by string, step int, want api.DamState, wantE api.Errno) {
		t.Helper()
		got := call(dam.Lowered(exampleRules(), s, api.DamOrder{By: by, Step: step}))
		if got[0] != want || got[1] != wantE {
			t.Error(s, by, step, got)
		}
	}
	lower(at(1, 2, 10), "bob", 0, at(0, 0, 10), api.OK)
	lower(at(1, 2, 10), "ann", 0, at(0, 0, 10), api.OK)
	lower(at(1, 3, 29), "ann", 0, at(0, 0, 29), api.OK)
	lower(at(1, 2, 30), "ann", 0, api.DamState{}, api.ErrRefused)
	lower(at(1, 1, 10), "ann", 0, api.DamState{}, api.ErrRefused)
	lower(at(2, 0, 120), "ann", 1, api.DamState{}, api.ErrRefused)
	lower(at(2, 2, 70), "ann", 1, at(1, 0, 70), api.OK)
	lower(at(2, 2, 79), "ann", 1, at(1, 0, 79), api.OK)
	lower(at(2, 2, 80), "ann", 1, api.DamState{}, api.ErrRefused)
	lower(at(2, 2, 70), "ann", 0, api.DamState{}, api.ErrRefused)
	lower(at(2, 2, 29), "ann", 0, at(0, 0, 29), api.OK)
	lower(at(2, 2, 30), "ann", 0, api.DamState{}, api.ErrRefused)
	lower(at(2, 1, 29), "ann", 0, api.DamState{}, api.ErrRefused)
	lower(at(2, 2, 70), "bob", 1, api.DamState{}, api.ErrAllowed)
	lower(at(2, 1, 70), "bob", 1, api.DamState{}, api.ErrAllowed)
	lower(at(2, 2, 70), "eve", 1, api.DamState{}, api.ErrMissing)
	lower(at(2, 2, 70), "eve", 2, api.DamState{}, api.ErrMissing)
	lower(at(2, 2, 70), "Ann", 1, api.DamState{}, api.ErrMissing)
	lower(at(0, 0, 0), "ann", 0, api.DamState{}, api.ErrRange)
	lower(at(0, 0, 0), "ann", -1, api.DamState{}, api.ErrRange)
	for _, n := range outside(0, 1) {
		lower(at(2, 2, 10), "ann", n, api.DamState{}, api.ErrRange)
		lower(at(2, 0, 90), "bob", n, api.DamState{}, api.ErrRange)
		lower(at(2, 0, 90), "eve", n, api.DamState{}, api.ErrMissing)
	}
	for _, name := range badNames() {
		lower(at(2, 2, 10), name, 1, api.DamState{}, api.ErrName)
		lower(at(0, 0, 0), name, -1, api.DamState{}, api.ErrName)
	}
}

// P9.3, the edge case of Hold 0: the watch may be lowered as soon as the last deviation is small enough.
func TestLoweredWithoutHold(t *testing.T) {
	r := exampleRules()
	r.Hold = 0
	for deviation := range 120 {
		want, wantE := at(0, 0, deviation), api.OK
		if deviation >= 30 {
			want, wantE = api.DamState{}, api.ErrRefused
		}
		if s, e := dam.Lowered(r, at(1, 0, deviation), api.DamOrder{By: "bob"}); s != want || e != wantE {
			t.Error(deviation, s, e)
		}
	}
}

// P9.3 and P9.10: all small states and orders, and those of any rules.
func TestLoweredAgainstModel(t *testing.T) {
	small := api.DamRules{Up: []int{3, 6, 7}, Down: []int{2, 4, 4}, Hold: 2, Persons: []api.DamPerson{{Name: "a", Rank: 1}, {Name: "b", Rank: 3}, {Name: "c", Rank: 2}}}
	for n := range 4 * 4 * 9 * 4 * 5 {
		s := at(n%4, n/4%4, n/16%9)
		x := api.DamOrder{By: []string{"a", "b", "c", "d"}[n/144%4], Step: n/576 - 1}
		if s.Step == 0 {
			s.Calm = 0
		}
		compareLowered(t, small, s, x)
	}
	r := random(10)
	for range 20000 {
		rules := randomRules(r)
		s := at(r.IntN(len(rules.Up)+1), chosen(r, 0, rules.Hold, max(0, rules.Hold-1), api.MaxDamCalm), randomDeviation(r, rules))
		if s.Step == 0 {
			s.Calm = 0
		}
		compareLowered(t, rules, s, api.DamOrder{By: chosen(r, "n0", "n1", "n5", "other"), Step: between(r, -1, s.Step)})
	}
}

func compareLowered(t *testing.T, r api.DamRules, s api.DamState, x api.DamOrder) {
	t.Helper()
	want, wantE := modelLowered(r, s, x)
	got, e := dam.Lowered(r, s, x)
	if got != want || e != wantE {
		t.Fatal(r, s, x, got, e, want, wantE)
	}
	asked, _ := dam.AskedFor(r, s.Deviation)
	if e == api.OK && s.Step > 0 && asked >= s.Step {
		t.Fatal(r, s, x, got)
	}
	isPerson := func(p api.DamPerson) bool { return p.Name == x.By && p.Rank >= s.Step }
	if e == api.OK && !slices.ContainsFunc(r.Persons, isPerson) {
		t.Fatal(r, s, x, got)
	}
}

// P9.3 and example 5.
func TestWatchOf(t *testing.T) {
	for _, c := range []struct {
		deviations []int
		want       api.DamState
	}{
		{nil, at(0, 0, 0)},
		{[]int{}, at(0, 0, 0)},
		{[]int{60, 20, 10}, at(1, 2, 10)},
		{[]int{10, 20, 29}, at(0, 0, 29)},
		{[]int{60, 20, 10, 120}, at(2, 0, 120)},
		{[]int{120, 60, 20, 10}, at(2, 3, 10)},
		{[]int{120, 60, 80, 10}, at(2, 1, 10)},
		{slices.Repeat([]int{50, 0}, 50), at(1, 1, 0)},
		{append([]int{100}, make([]int, 99)...), at(2, 99, 0)},
	} {
		if s, e := dam.WatchOf(exampleRules(), c.deviations); s != c.want || e != api.OK {
			t.Error(c, s, e)
		}
	}
}

// P9.3 and P9.9: as long as nobody lowers it, the step is the maximum of the steps that all deviations asked for.
func TestWatchAgainstModel(t *testing.T) {
	r := random(11)
	for range 2000 {
		rules := randomRules(r)
		var deviations []int
		var s, want api.DamState
		most := 0
		for range r.IntN(api.MaxDamDeviations + 1) {
			d := randomDeviation(r, rules)
			deviations = append(deviations, d)
			asked, askedE := dam.AskedFor(rules, d)
			next, e := dam.Watched(rules, s, d)
			want = modelWatched(rules, want, d)
			most = max(most, asked)
			if asked != modelAsked(rules, d) || next != want || next.Step != most || askedE+e != api.OK {
				t.Fatal(rules, s, d, asked, next, want, most)
			}
			s = next
		}
		if s, e := dam.WatchOf(rules, deviations); s != want || e != api.OK {
			t.Fatal(rules, deviations, s, want, e)
		}
	}
}

// P9.9: after it is lowered the step is at least the maximum that the deviations since then asked for.
func TestNeverLower(t *testing.T) {
	r := random(12)
	lowered := 0
	for range 1000 {
		rules := randomRules(r)
		rules.Hold = r.IntN(3)
		var s api.DamState
		since := 0
		for range 60 {
			d := randomDeviation(r, rules)
			asked, _ := dam.AskedFor(rules, d)
			next, e := dam.Watched(rules, s, d)
			since = max(since, asked)
			if next.Step < since || next.Step < s.Step || e != api.OK {
				t.Fatal(rules, s, d, next, e)
			}
			s = next
			if next, e := dam.Lowered(rules, s, api.DamOrder{By: chosen(r, "n0", "n1", "n2"), Step: r.IntN(5)}); e == api.OK {
				if next.Step < asked {
					t.Fatal(rules, s, next)
				}
				s, since = next, 0
				lowered++
			}
		}
	}
	if lowered < 1000 {
		t.Error(lowered)
	}
}

// P9.3 and example 6.
func TestDeviationOf(t *testing.T) {
	const most = api.MaxDamValue
	for _, c := range []struct{ lo, hi, movement, want int }{
		{157, 160, 163, 3}, {157, 160, 158, 0}, {157, 160, 157, 0}, {157, 160, 160, 0}, {157, 160, 161, 1}, {157, 160, 156, 1}, {157, 160, -3, 160},
		{5, 5, 5, 0}, {5, 5, 4, 1}, {5, 5, 6, 1}, {-10, -3, 0, 3}, {-10, -3, -20, 10}, {-10, 3, 0, 0}, {most, most, -most, 2 * most}, {-most, -most, most, 2 * most}, {-most, most, most, 0}, {-most, most, -most, 0},
	} {
		if n, e := dam.DeviationOf(api.Range{Lo: c.lo, Hi: c.hi}, c.movement); n != c.want || e != api.OK {
			t.Error(c, n, e)
		}
	}
	expect := func(want api.Errno, lo, hi, movement int) {
		t.Helper()
		if got := call(dam.DeviationOf(api.Range{Lo: lo, Hi: hi}, movement)); !failed(got, want) {
			t.Error(lo, hi, movement, got, want)
		}
	}
	for _, n := range outside(-most, most) {
		expect(api.ErrRange, n, 5, 5)
		expect(api.ErrRange, 5, n, 5)
		expect(api.ErrRange, 5, 4, n)
		expect(api.ErrRange, 4, 5, n)
		expect(api.ErrRange, n, n, n)
	}
	for _, c := range [][3]int{{5, 4, 0}, {most, -most, 0}, {1, 0, 1}, {0, -1, most}} {
		expect(api.ErrOrder, c[0], c[1], c[2])
	}
}

// ofRules is every function with rules, but for CheckRules.
func ofRules(r api.DamRules, s api.DamState, deviation int, x api.DamOrder) [][]any {
	return [][]any{
		call(dam.AskedFor(r, deviation)), call(dam.Watched(r, s, deviation)), call(dam.Lowered(r, s, x)),
		call(dam.WatchOf(r, []int{deviation})), call(dam.WatchOf(r, slices.Repeat([]int{deviation}, 101))),
	}
}

// P9.3: the error of the rules comes first.
func TestWatchOfBadRules(t *testing.T) {
	for _, c := range badRules() {
		for _, deviation := range []int{0, -1} {
			for _, x := range []api.DamOrder{{By: "ann"}, {Step: -1}, {By: "1", Step: 7}} {
				for i, got := range ofRules(c.rules, at(deviation, 0, 0), deviation, x) {
					if !failed(got, c.want) {
						t.Fatal(c, i, got)
					}
				}
			}
		}
	}
}

// P9.3: the errors of the state come after those of the rules, and before those of the deviation and of the order.
func TestBadStates(t *testing.T) {
	expect := func(want api.Errno, s api.DamState) {
		t.Helper()
		for _, x := range []api.DamOrder{{By: "ann"}, {By: "1", Step: 7}, {By: "ann", Step: 6}, {By: "ann", Step: -9}} {
			if got := call(dam.Lowered(exampleRules(), s, x)); !failed(got, want) {
				t.Error(s, x, got, want)
			}
		}
		for _, deviation := range []int{0, 60, -1} {
			if got := call(dam.Watched(exampleRules(), s, deviation)); !failed(got, want) {
				t.Error(s, deviation, got, want)
			}
		}
	}
	for _, n := range outside(0, 2) {
		expect(api.ErrRange, at(n, 0, 0))
		expect(api.ErrRange, at(n, 5, 90))
	}
	for _, n := range outside(0, api.MaxDamCalm) {
		expect(api.ErrRange, at(1, n, 0))
		expect(api.ErrRange, at(0, n, 0))
	}
	for _, n := range outside(0, api.MaxDamDeviation) {
		expect(api.ErrRange, at(1, 0, n))
		expect(api.ErrRange, at(0, 1, n))
	}
	for _, n := range []int{1, 2, api.MaxDamCalm} {
		expect(api.ErrClash, at(0, n, 0))
	}
}

// P9.3: the errors of deviations, of their number before their sizes.
func TestBadDeviations(t *testing.T) {
	for _, n := range outside(0, api.MaxDamDeviation) {
		for i, got := range [][]any{
			call(dam.AskedFor(exampleRules(), n)), call(dam.Watched(exampleRules(), at(1, 0, 0), n)),
			call(dam.WatchOf(exampleRules(), []int{n})), call(dam.WatchOf(exampleRules(), append(make([]int, 99), n))), call(dam.WatchOf(exampleRules(), append([]int{n}, make([]int, 99)...))),
		} {
			if !failed(got, api.ErrRange) {
				t.Error(n, i, got)
			}
		}
		if got := call(dam.WatchOf(exampleRules(), slices.Repeat([]int{n}, 101))); !failed(got, api.ErrLarge) {
			t.Error(n, got)
		}
	}
	for _, n := range []int{101, 102, 5000} {
		if got := call(dam.WatchOf(exampleRules(), make([]int, n))); !failed(got, api.ErrLarge) {
			t.Error(n, got)
		}
	}
	if s, e := dam.WatchOf(exampleRules(), append(make([]int, 99), api.MaxDamDeviation)); s != at(2, 0, api.MaxDamDeviation) || e != api.OK {
		t.Error(s, e)
	}
}
