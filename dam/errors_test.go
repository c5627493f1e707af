package dam_test

import (
	"math"
	"math/rand/v2"
	"reflect"
	"slices"
	"testing"

	"guidevane/api"
	"guidevane/dam"
)

// strange returns numbers at, around and far beyond all limits.
func strange(r *rand.Rand) int {
	return chosen(r, math.MinInt, math.MinInt+1, -1000000000001, -1000000000000, -1000001, -1000000, -2001, -2000, -51, -50, -2, -1, 0, 0, 1, 1, 2, 3, 5, 6, 31, 32, 50, 51, 90, 360, 2000, 2001, 36000, 36001, 1000000, 1000001, 1000000000, 1000000001, 1000000000000, 1000000000001, math.MaxInt-1, math.MaxInt)
}

// often returns a number, and now and then a strange one.
func often(r *rand.Rand, n int) int {
	if r.IntN(12) == 0 {
		return strange(r)
	}
	return n
}

func strangeNumbers(r *rand.Rand, most int) []int {
	l := make([]int, r.IntN(most+1))
	for i := range l {
		l[i] = often(r, r.IntN(4))
	}
	return l
}

func strangeReading(r *rand.Rand) api.DamReading {
	return api.DamReading{Day: often(r, r.IntN(36000)), Level: often(r, r.IntN(50)), Movement: often(r, r.IntN(2000))}
}

func strangeReadings(r *rand.Rand) []api.DamReading {
	l := make([]api.DamReading, chosen(r, r.IntN(14), 12, 5))
	for i := range l {
		l[i] = strangeReading(r)
	}
	return l
}

func strangeFit(r *rand.Rand) api.DamFit {
	f := randomFit(r)
	f.Den = often(r, f.Den)
	for i, part := range f.Parts {
		f.Parts[i] = often(r, part)
	}
	return f
}

func strangeRules(r *rand.Rand) api.DamRules {
	rules := randomRules(r)
	rules.Up[0], rules.Hold = often(r, rules.Up[0]), often(r, rules.Hold)
	switch r.IntN(12) {
	case 0:
		rules.Up = strangeNumbers(r, 7)
	case 1:
		rules.Down = strangeNumbers(r, 7)
	case 2:
		rules.Up, rules.Down = nil, nil
	case 3:
		rules.Persons = append(rules.Persons, api.DamPerson{Name: chosen(r, badNames()...), Rank: strange(r)})
	case 4:
		rules.Persons = slices.Repeat(rules.Persons, 3)
	}
	return rules
}

func strangeGauges(r *rand.Rand) []api.DamGauge {
	l := randomGauges(r)
	for i := range l {
		l[i].Value.Hi, l[i].Shift.Lo = often(r, l[i].Value.Hi), often(r, l[i].Shift.Lo)
	}
	if r.IntN(12) == 0 {
		return slices.Repeat(l, r.IntN(3))
	}
	return l
}

func strangeValley(r *rand.Rand) api.DamValley {
	v := randomValley(r, 21, 41)
	for i := range v.Sirens {
		v.Sirens[i].At, v.Sirens[i].Reach = often(r, v.Sirens[i].At), often(r, v.Sirens[i].Reach)
	}
	for i := range v.Houses {
		v.Houses[i] = often(r, v.Houses[i])
	}
	return v
}

// R2: no call panics or goes on for ever, whatever its arguments are.
func TestAnyArguments(t *testing.T) {
	r := random(19)
	for range 5000 {
		x, l, f, terms := strangeReading(r), strangeReadings(r), strangeFit(r), often(r, r.IntN(33))
		call(dam.TermsOf(x))
		call(dam.FitOf(l, terms))
		call(dam.CheckFit(l, terms, f))
		call(dam.SharesOf(f, x))
		ofFit(l, f, x)
		rules, s := strangeRules(r), at(often(r, r.IntN(6)), often(r, r.IntN(3)), strange(r))
		call(dam.CheckRules(rules))
		ofRules(rules, s, strange(r), api.DamOrder{By: chosen(r, "n0", "n1", "n2", ""), Step: often(r, r.IntN(6))})
		ofRules(rules, at(often(r, 1), often(r, 1), 0), 0, api.DamOrder{By: "n0", Step: strange(r)})
		call(dam.WatchOf(rules, strangeNumbers(r, 120)))
		call(dam.DeviationOf(api.Range{Lo: strange(r), Hi: strange(r)}, strange(r)))
		gauges := strangeGauges(r)
		call(dam.AgreedOf(gauges))
		call(dam.Contradicting(gauges))
		b := api.DamBasin{Volumes: strangeNumbers(r, 22), Outflows: strangeNumbers(r, 22)}
		call(dam.EmptyingOf(b, strange(r)))
		b.Outflows = slices.Clone(b.Volumes)
		call(dam.EmptyingOf(b, often(r, r.IntN(20))))
		v := strangeValley(r)
		call(dam.CoverOf(v))
		call(dam.PackingOf(v))
		call(dam.ParseReading(dam.FormatReading(x)))
		call(dam.ParseRules(dam.FormatRules(rules)))
	}
}

// arguments are slices that are given to functions.
type arguments struct {
	readings   []api.DamReading
	rules      api.DamRules
	deviations []int
	gauges     []api.DamGauge
	basin      api.DamBasin
	valley     api.DamValley
}

// roomy returns a slice with memory behind its end.
func roomy[T any](l []T) []T {
	return slices.Grow(slices.Clone(l), 9)
}

// newArguments returns arguments whose slices have memory behind their ends.
func newArguments() arguments {
	a := arguments{readings: roomy(exampleReadings()), rules: exampleRules(), deviations: roomy([]int{60, 20, 10}), gauges: roomy(exampleGauges()), basin: exampleBasin(), valley: exampleValley()}
	a.rules.Up, a.rules.Down, a.rules.Persons = roomy(a.rules.Up), roomy(a.rules.Down), roomy(a.rules.Persons)
	a.basin.Volumes, a.basin.Outflows = roomy(a.basin.Volumes), roomy(a.basin.Outflows)
	a.valley.Sirens, a.valley.Houses = roomy(a.valley.Sirens), roomy([]int{60, 5, 40, 20})
	return a
}

// results returns all results of all functions.
func (a arguments) results() []any {
	x := api.DamReading{Level: 20}
	lists := slices.Concat(ofFit(a.readings, exampleFit(), x), ofRules(a.rules, at(1, 2, 10), 60, api.DamOrder{By: "ann"}), [][]any{
		call(dam.CheckReading(a.readings[1])), call(dam.TermsOf(a.readings[1])), call(dam.FitOf(a.readings, 3)), call(dam.CheckFit(a.readings, 3, exampleFit())), call(dam.SharesOf(exampleFit(), x)),
		call(dam.CheckRules(a.rules)), call(dam.WatchOf(a.rules, a.deviations)), call(dam.DeviationOf(api.Range{Lo: 1, Hi: 2}, 9)),
		call(dam.AgreedOf(a.gauges[:1])), call(dam.AgreedOf(a.gauges)), call(dam.Contradicting(a.gauges)),
		call(dam.CheckBasin(a.basin)), call(dam.EmptyingOf(a.basin, 2)), call(dam.CheckValley(a.valley)), call(dam.CoverOf(a.valley)), call(dam.PackingOf(a.valley)),
		call(dam.FormatReading(x), dam.FormatRules(a.rules)), call(dam.ParseReading("455 10 -7")), call(dam.ParseRules(exampleRulesString)),
	})
	var results []any
	for _, l := range lists {
		results = append(results, l...)
	}
	return results
}

// spoil writes over all memory of a slice, also beyond its end.
func spoil[T any](l []T) {
	clear(l[:cap(l)])
}

// R3 and R4: calls change no argument, and what is done with a result changes neither any argument nor a later result.
func TestMemory(t *testing.T) {
	a := newArguments()
	before := a.results()
	for _, result := range a.results() {
		switch l := result.(type) {
		case []int:
			spoil(l)
		case []api.Range:
			spoil(l)
		case api.DamRules:
			spoil(l.Up)
			spoil(l.Down)
			spoil(l.Persons)
		}
	}
	if !reflect.DeepEqual(a, newArguments()) {
		t.Error("an argument was changed", a)
	}
	if again := a.results(); !reflect.DeepEqual(before, again) {
		t.Error(before, again)
	}
}

// R3: the slices of rules that were parsed share no memory.
func TestMemoryOfRules(t *testing.T) {
	for i := range 3 {
		r, e := dam.ParseRules(exampleRulesString)
		if e != api.OK {
			t.Fatal(e)
		}
		want := exampleRules()
		switch i {
		case 0:
			spoil(r.Up)
			clear(want.Up)
		case 1:
			spoil(r.Down)
			clear(want.Down)
		default:
			spoil(r.Persons)
			clear(want.Persons)
		}
		if !reflect.DeepEqual(r, want) {
			t.Error(i, r)
		}
	}
}

// R3: calls write nothing behind the ends of the slices that are their arguments.
func TestMemoryBehindArguments(t *testing.T) {
	a := newArguments()
	a.results()
	for i, l := range []any{
		a.readings[3:cap(a.readings)], a.rules.Up[2:cap(a.rules.Up)], a.rules.Down[2:cap(a.rules.Down)], a.rules.Persons[2:cap(a.rules.Persons)], a.deviations[3:cap(a.deviations)],
		a.gauges[2:cap(a.gauges)], a.basin.Volumes[2:cap(a.basin.Volumes)], a.basin.Outflows[2:cap(a.basin.Outflows)], a.valley.Sirens[3:cap(a.valley.Sirens)], a.valley.Houses[4:cap(a.valley.Houses)],
	} {
		for k, v := 0, reflect.ValueOf(l); k < v.Len(); k++ {
			if !v.Index(k).IsZero() {
				t.Error(i, l)
			}
		}
	}
}
