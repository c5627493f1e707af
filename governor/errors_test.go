package governor_test

import (
	"math"
	"reflect"
	"slices"
	"testing"

	"guidevane/api"
	"guidevane/governor"
)

func call(results ...any) []any {
	return results
}

// failed tells whether results are zero, except for the last one, which is an error.
func failed(results []any, want api.Errno) bool {
	last := len(results) - 1
	for _, result := range results[:last] {
		v := reflect.ValueOf(result)
		if !v.IsZero() && (v.Kind() != reflect.Slice || v.Len() > 0) {
			return false
		}
	}
	return results[last] == want
}

// worst is deviations with all errors.
func worst() []int {
	return slices.Repeat([]int{math.MinInt}, 201)
}

// P6.1: the error of the gate comes first, and all else is zero.
func TestBadGates(t *testing.T) {
	for _, c := range badGates() {
		for i, got := range [][]any{
			call(governor.GateStep(c.gate, 48)), call(governor.GateStep(c.gate, math.MinInt)),
			call(governor.GateRun(c.gate, goodRules(), []int{7})), call(governor.GateRun(c.gate, goodRules(), nil)), call(governor.GateRun(c.gate, api.GovernorRules{}, worst())),
			call(governor.TicksTo(c.gate, 48)), call(governor.TicksTo(c.gate, math.MaxInt)),
		} {
			if !failed(got, c.want) {
				t.Error(c, i, got)
			}
		}
	}
}

// P6.1: the error of the rules comes before those of deviations.
func TestBadRules(t *testing.T) {
	for _, c := range badRules() {
		for i, got := range [][]any{
			call(governor.WantedFor(c.rules, 7)), call(governor.WantedFor(c.rules, math.MinInt)),
			call(governor.GateRun(goodGate(), c.rules, []int{7})), call(governor.GateRun(goodGate(), c.rules, nil)), call(governor.GateRun(goodGate(), c.rules, worst())),
		} {
			if !failed(got, c.want) {
				t.Error(c, i, got)
			}
		}
	}
}

// P6.1: wanted positions, deviations, and their number.
func TestBadSpeeds(t *testing.T) {
	for _, n := range outside(-100000, 100000) {
		for i, got := range [][]any{
			call(governor.WantedFor(goodRules(), n)), call(governor.GateStep(goodGate(), n)), call(governor.TicksTo(goodGate(), n)),
			call(governor.GateRun(goodGate(), goodRules(), []int{n})), call(governor.GateRun(goodGate(), goodRules(), []int{7, 7, n, 7})), call(governor.GateRun(goodGate(), goodRules(), append(make([]int, 199), n))),
		} {
			if !failed(got, api.ErrRange) {
				t.Error(n, i, got)
			}
		}
	}
	for _, l := range [][]int{make([]int, 201), worst(), append(make([]int, 200), 100001), append([]int{100001}, make([]int, 200)...), make([]int, 100000)} {
		if got := call(governor.GateRun(goodGate(), goodRules(), l)); !failed(got, api.ErrLarge) {
			t.Error(len(l), got)
		}
	}
	for _, n := range []int{-100000, 100000} {
		if l, e := governor.GateRun(goodGate(), goodRules(), []int{n}); len(l) != 1 || e != api.OK {
			t.Error(n, l, e)
		}
	}
}

// calls is every function with a polynomial as its argument, but for CheckPolynomial. The other arguments are good, or as wrong as possible.
func calls(p []int) [][]any {
	return [][]any{
		call(governor.ValueAt(p, 1)), call(governor.ValueAt(p, -1)), call(governor.QuadrantsOf(p, nil)), call(governor.QuadrantsOf(p, worst())),
		call(governor.TableOf(p)), call(governor.IsStable(p)), call(governor.CheckTable(p, nil)), call(governor.CheckTable(p, [][]int{{1}, {1}})),
		call(governor.Shifted(p, 0)), call(governor.Shifted(p, math.MinInt)), call(governor.MarginOf(p)),
		call(governor.CheckLoop(api.GovernorLoop{Common: p})), call(governor.CheckLoop(api.GovernorLoop{Common: p, Machines: make([][]int, 7)})),
	}
}

// P6.2 to P6.4: the error of the polynomial comes first, and all else is zero.
func TestBadPolynomials(t *testing.T) {
	for _, c := range badPolynomials() {
		for i, got := range calls(c.p) {
			if !failed(got, c.want) {
				t.Error(c, i, got)
			}
		}
	}
}

// P6.5: the error of the box, without the index.
func TestBadBoxes(t *testing.T) {
	for _, c := range badBoxes() {
		for i, got := range [][]any{call(governor.CornersOf(c.box)), call(governor.IsRobust(c.box))} {
			if !failed(got, c.want) {
				t.Error(c, i, got)
			}
		}
	}
}

// P6.6: the error of the loop, without the index, comes first.
func TestBadLoops(t *testing.T) {
	for _, c := range badLoops() {
		for i, got := range [][]any{call(governor.SumFor(c.loop, nil)), call(governor.SumFor(c.loop, []int{0})), call(governor.SumFor(c.loop, []int{-1, -1})), call(governor.UnstableSet(c.loop))} {
			if !failed(got, c.want) {
				t.Error(c, i, got)
			}
		}
	}
}

// R2: no call panics or goes on for ever, whatever its arguments are.
func TestAnyArguments(t *testing.T) {
	r := random(30)
	number := func() int {
		return chosen(r, math.MinInt, math.MinInt+1, -1000001, -100001, -100000, -1001, -1000, -101, -100, -1, 0, 0, 0, 1, 1, 1, 2, 3, 5, 10, 11, 20, 21, 100, 101, 1000, 1001, 10000, 10001, 100000, 1000000, math.MaxInt-1, math.MaxInt)
	}
	small := func() int { return between(r, -1, 6) }
	numbers := func() []int {
		n := chosen(r, number, small, small, small)
		var l []int
		for range chosen(r, r.IntN(7), r.IntN(7), r.IntN(300)) {
			l = append(l, n())
		}
		return l
	}
	lists := func() [][]int {
		var l [][]int
		for range r.IntN(8) {
			l = append(l, numbers())
		}
		return l
	}
	for range 20000 {
		g := api.GovernorGate{At: number(), Lo: number(), Hi: number(), Rate: number()}
		rules := api.GovernorRules{Band: number(), Num: number(), Den: number(), Set: number()}
		p := numbers()
		b := boxOf(append(p, p...)...)
		governor.CheckGate(g)
		governor.CheckRules(rules)
		governor.WantedFor(rules, number())
		governor.GateStep(g, number())
		governor.GateRun(g, rules, numbers())
		governor.TicksTo(g, number())
		governor.CheckPolynomial(p)
		calls(p)
		governor.ValueAt(p, number())
		governor.QuadrantsOf(p, numbers())
		governor.CheckTable(p, lists())
		governor.Shifted(p, number())
		governor.CheckBox(b)
		governor.CornersOf(b)
		governor.IsRobust(b)
		l := api.GovernorLoop{Common: p, Machines: lists()}
		if r.IntN(2) == 0 {
			l.Machines = slices.Repeat([][]int{p}, r.IntN(8))
		}
		governor.CheckLoop(l)
		governor.SumFor(l, numbers())
		governor.UnstableSet(l)
		governor.SharesOf(numbers(), number())
		governor.VoteOf([3]api.GovernorReading{{Value: number()}, {Value: number(), Missing: r.IntN(2) == 0}, {Value: number(), Missing: r.IntN(2) == 0}}, number())
		governor.ParsePolynomial(governor.FormatPolynomial(p))
	}
}

// spoil writes over all memory of a slice, also beyond its end.
func spoil[T any](l []T) {
	clear(l[:cap(l)])
}

// spoilRows writes over all rows, and tells whether none of them shares memory with the next one.
func spoilRows(rows [][]int) bool {
	apart := true
	for i, row := range rows {
		next := rows[(i+1)%len(rows)]
		own := slices.Clone(next)
		spoil(row)
		apart = apart && (len(rows) == 1 || slices.Equal(own, next))
	}
	spoil(rows)
	return apart
}

// R3 and R4: calls change no argument, and what is done with a result changes neither another part of it nor any argument or later result.
func TestMemory(t *testing.T) {
	p, box, deviations, grid := []int{2, 4, 6, 2}, goodBox(), []int{7, 7, -7}, []int{0, 1, 2}
	loop := api.GovernorLoop{Common: []int{1, 4}, Machines: [][]int{{1, -1}, {2, -2}, {3, -2}}}
	set, droops := []int{1, 2}, []int{2, 3, 7}
	arguments := func() []any {
		return []any{slices.Clone(p), slices.Clone(box.Coefs), slices.Clone(deviations), slices.Clone(grid), slices.Clone(loop.Common), [][]int{slices.Clone(loop.Machines[0]), slices.Clone(loop.Machines[1]), slices.Clone(loop.Machines[2])}, slices.Clone(set), slices.Clone(droops)}
	}
	results := func() []any {
		run, _ := governor.GateRun(goodGate(), goodRules(), deviations)
		quadrants, _ := governor.QuadrantsOf(p, grid)
		rows, _ := governor.TableOf(p)
		shifted, _ := governor.Shifted(p, 0)
		corners, _ := governor.CornersOf(box)
		sum, _ := governor.SumFor(loop, set)
		common, _ := governor.SumFor(loop, nil)
		unstable, _ := governor.UnstableSet(loop)
		shares, _ := governor.SharesOf(droops, 10)
		parsed, _ := governor.ParsePolynomial("1 2 3")
		governor.CheckTable(p, rows)
		governor.MarginOf(p)
		governor.IsRobust(box)
		governor.CheckLoop(loop)
		return []any{run, quadrants, rows, shifted, corners, sum, common, unstable, shares, parsed}
	}
	given, before := arguments(), results()
	for i, result := range results() {
		switch l := result.(type) {
		case []int:
			spoil(l)
		case []api.Frac:
			spoil(l)
		case [][]int:
			if !spoilRows(l) {
				t.Error("rows share memory", i)
			}
		}
	}
	if after := results(); !reflect.DeepEqual(before, after) {
		t.Error(before, after)
	}
	if now := arguments(); !reflect.DeepEqual(given, now) {
		t.Error("an argument was changed", now)
	}
}
