package dam_test

import (
	"slices"
	"testing"

	"guidevane/api"
	"guidevane/dam"
)

// exampleFit is the fit of the examples, of the terms 3.
func exampleFit() api.DamFit {
	return api.DamFit{Den: 30, Parts: [5]int{3020, 87}}
}

// fitOf returns the fit with a denominator and parts.
func fitOf(den int, parts ...int) api.DamFit {
	f := api.DamFit{Den: den}
	copy(f.Parts[:], parts)
	return f
}

// badLists returns readings, and the error of each list: of its number before that of its items.
func badLists() map[api.Errno][][]api.DamReading {
	bad := map[api.Errno][][]api.DamReading{
		api.ErrShape: {nil, {}},
		api.ErrLarge: {make([]api.DamReading, 13), make([]api.DamReading, 5000), slices.Repeat([]api.DamReading{{Day: -1}}, 13)},
	}
	for i, x := range badReadings() {
		l := append(make([]api.DamReading, i%12), x)
		bad[api.ErrRange] = append(bad[api.ErrRange], l, append(l, make([]api.DamReading, 11-i%12)...))
	}
	return bad
}

// badModels are no sets of terms.
func badModels() []int {
	return append(outside(1, 31), 32, 64, 33, -31, 1<<32+1, 1<<40)
}

// badFits returns fits for which the error of a fit is ErrRange.
func badFits() []api.DamFit {
	var l []api.DamFit
	for _, n := range outside(1, api.MaxDamFit) {
		l = append(l, fitOf(n), fitOf(n, 3020, 87), fitOf(n, 1, 2, 3, 4, 5))
	}
	for _, n := range outside(-api.MaxDamFit, api.MaxDamFit) {
		for term := range 5 {
			f := exampleFit()
			f.Parts[term] = n
			l = append(l, f)
			f.Den = 1
			l = append(l, f)
		}
	}
	return l
}

// P9.2, example 2, and the edge cases: the mean; one day and one level; a term that is 0 in all readings.
func TestFitOf(t *testing.T) {
	quarter := func(day, movement int) api.DamReading { return api.DamReading{Day: day, Movement: movement} }
	oneDay := []api.DamReading{{Day: 800, Level: 6, Movement: 10}, {Day: 800, Level: 6, Movement: 13}}
	for _, c := range []struct {
		l     []api.DamReading
		terms int
		want  api.DamFit
		e     api.Errno
	}{
		{exampleReadings(), 3, exampleFit(), api.OK},
		{exampleReadings(), 1, fitOf(3, 302), api.OK},
		{exampleReadings(), 2, fitOf(10, 0, 29), api.OK},
		{exampleReadings(), 4, fitOf(3, 0, 0, 302), api.OK},
		{exampleReadings()[:1], 1, fitOf(1, 100), api.OK},
		{[]api.DamReading{{}}, 1, fitOf(1), api.OK},
		{[]api.DamReading{{Movement: 4}, {Movement: 8}}, 1, fitOf(1, 6), api.OK},
		{[]api.DamReading{{Movement: -4}, {Movement: -5}}, 1, fitOf(2, -9), api.OK},
		{[]api.DamReading{{Level: -10, Movement: 4}}, 2, fitOf(5, 0, -2), api.OK},
		{oneDay, 1, fitOf(2, 23), api.OK},
		{oneDay, 2, fitOf(12, 0, 23), api.OK},
		{oneDay, 4, fitOf(2, 0, 0, 23), api.OK},
		{oneDay, 16, fitOf(4, 0, 0, 0, 0, 23), api.OK},
		{oneDay, 3, api.DamFit{}, api.ErrNone},
		{oneDay, 5, api.DamFit{}, api.ErrNone},
		{oneDay, 17, api.DamFit{}, api.ErrNone},
		{oneDay, 18, api.DamFit{}, api.ErrNone},
		{oneDay, 31, api.DamFit{}, api.ErrNone},
		{oneDay, 8, api.DamFit{}, api.ErrNone},
		{exampleReadings(), 17, api.DamFit{}, api.ErrNone},
		{exampleReadings(), 16, api.DamFit{}, api.ErrNone},
		{exampleReadings(), 8, api.DamFit{}, api.ErrNone},
		{exampleReadings(), 31, api.DamFit{}, api.ErrNone},
		{[]api.DamReading{quarter(0, 10), quarter(90, 7), quarter(180, 2), quarter(270, 1)}, 12, fitOf(1, 0, 0, 4, 3), api.OK},
		{[]api.DamReading{quarter(0, 10), quarter(90, 7), quarter(180, 2), quarter(270, 1)}, 13, fitOf(1, 5, 0, 4, 3), api.OK},
		{[]api.DamReading{quarter(0, 0), quarter(360, 3), quarter(36000, 300)}, 17, fitOf(1, 0, 0, 0, 0, 3), api.OK},
		{[]api.DamReading{{Level: 1, Movement: 5}, {Level: 2, Movement: 5}}, 1, fitOf(1, 5), api.OK},
		{[]api.DamReading{{Level: 0, Movement: 5}, {Level: 0, Movement: 6}}, 2, api.DamFit{}, api.ErrNone},
	} {
		f, e := dam.FitOf(c.l, c.terms)
		if f != c.want || e != c.e {
			t.Error(c, f, e)
		}
		if e != api.OK {
			continue
		}
		if i, e := dam.CheckFit(c.l, c.terms, f); i != 0 || e != api.OK {
			t.Error(c, i, e)
		}
	}
}

// P9.2: a fit whose greatest part would be 1431455075481.
func TestFitOfLarge(t *testing.T) {
	l := []api.DamReading{{Day: 23799, Level: -11, Movement: 1755}, {Day: 34834, Level: 15, Movement: -1516}, {Day: 17178, Level: 4, Movement: 1438}, {Day: 25402, Level: -44, Movement: -1042}, {Day: 17699, Level: 16, Movement: 1779}, {Day: 34300, Level: -8, Movement: -1405}, {Day: 16160, Level: -47, Movement: -1410}}
	if got := call(dam.FitOf(l, 31)); !failed(got, api.ErrLarge) {
		t.Error(got)
	}
	for _, terms := range []int{15, 29, 30} {
		want, _ := modelFit(l, terms)
		if f, e := dam.FitOf(l, terms); f != want || f.Den < 1000 || e != api.OK {
			t.Error(terms, f, e)
		}
	}
}

// P9.2 and P9.7: the fit is the one that elimination with fractions finds, and it is accepted.
func TestFitOfAgainstModel(t *testing.T) {
	r := random(1)
	count := map[api.Errno]int{}
	for i := range 12000 {
		l := randomReadings(r)
		switch i % 4 {
		case 0:
			l = extremeReadings(r)
		case 1:
			l = wideReadings(r)
		}
		terms := chosen(r, between(r, 1, 31), 31, 19)
		want, wantE := modelFit(l, terms)
		f, e := dam.FitOf(l, terms)
		if f != want || e != wantE {
			t.Fatal(l, terms, f, e, want, wantE)
		}
		count[e]++
		if e != api.OK {
			continue
		}
		if i, e := dam.CheckFit(l, terms, f); i != 0 || e != api.OK {
			t.Fatal(l, terms, f, i, e)
		}
	}
	if count[api.OK] < 1000 || count[api.ErrNone] < 1000 || count[api.ErrLarge] < 100 {
		t.Error(count)
	}
}

// P9.2: errors of the readings, of the terms, and of the fit, in this order.
func TestFitErrors(t *testing.T) {
	expect := func(want api.Errno, l []api.DamReading, terms int, f api.DamFit) {
		t.Helper()
		if got := call(dam.CheckFit(l, terms, f)); !failed(got, want) {
			t.Error(len(l), terms, f, got, want)
		}
	}
	for want, lists := range badLists() {
		for _, l := range lists {
			for _, terms := range []int{3, 17, 0, 32} {
				if got := call(dam.FitOf(l, terms)); !failed(got, want) {
					t.Error(l, terms, got, want)
				}
				expect(want, l, terms, exampleFit())
				expect(want, l, terms, api.DamFit{Den: -1})
			}
		}
	}
	for _, terms := range badModels() {
		for _, l := range [][]api.DamReading{exampleReadings(), exampleReadings()[:1]} {
			if got := call(dam.FitOf(l, terms)); !failed(got, api.ErrRange) {
				t.Error(terms, got)
			}
			expect(api.ErrRange, l, terms, exampleFit())
		}
	}
	for _, f := range badFits() {
		for _, terms := range []int{1, 2, 3, 16, 31} {
			expect(api.ErrRange, exampleReadings(), terms, f)
		}
	}
}

// P9.2: what is not the reduced fit of the examples.
func TestCheckFit(t *testing.T) {
	for _, c := range []struct {
		terms, index int
		f            api.DamFit
		want         api.Errno
	}{
		{3, 0, exampleFit(), api.OK},
		{1, 1, exampleFit(), api.ErrForm},
		{2, 0, exampleFit(), api.ErrForm},
		{4, 0, exampleFit(), api.ErrForm},
		{16, 0, exampleFit(), api.ErrForm},
		{3, 2, fitOf(30, 3020, 87, 1), api.ErrForm},
		{3, 3, fitOf(30, 3020, 87, 0, -1), api.ErrForm},
		{3, 4, fitOf(30, 3020, 87, 0, 0, 1), api.ErrForm},
		{3, 2, fitOf(30, 3020, 87, 5, 6, 7), api.ErrForm},
		{3, 3, fitOf(60, 6040, 174, 0, 2), api.ErrForm},
		{1, 4, fitOf(2, 2, 0, 0, 0, 2), api.ErrForm},
		{3, 0, fitOf(60, 6040, 174), api.ErrForm},
		{3, 0, fitOf(90, 9060, 261), api.ErrForm},
		{3, 0, fitOf(2, 4, 6), api.ErrForm},
		{3, 0, fitOf(2), api.ErrForm},
		{3, 0, fitOf(1, 100), api.ErrProof},
		{3, 0, fitOf(30, 3019, 87), api.ErrProof},
		{3, 1, fitOf(30, 3020, 89), api.ErrProof},
		{3, 0, fitOf(31, 3020, 87), api.ErrProof},
		{3, 0, fitOf(30, -3020, -87), api.ErrProof},
		{3, 0, fitOf(30, 1, 87), api.ErrProof},
		{3, 1, fitOf(3, 302), api.ErrProof},
		{3, 0, fitOf(10, 0, 29), api.ErrProof},
		{2, 1, fitOf(10, 0, 27), api.ErrProof},
		{2, 0, fitOf(10, 0, 29), api.OK},
		{2, 0, fitOf(20, 0, 58), api.ErrForm},
		{4, 2, fitOf(3, 0, 0, 301), api.ErrProof},
		{1, 0, fitOf(api.MaxDamFit, api.MaxDamFit), api.ErrForm},
		{1, 0, fitOf(api.MaxDamFit, api.MaxDamFit-1), api.ErrProof},
		{1, 0, fitOf(1, -api.MaxDamFit), api.ErrProof},
	} {
		if i, e := dam.CheckFit(exampleReadings(), c.terms, c.f); i != c.index || e != c.want {
			t.Error(c, i, e)
		}
	}
}

// changedFits returns fits that are nearly a given one, and some that are not.
func changedFits(f api.DamFit, other api.DamFit, by, term int) []api.DamFit {
	longer, moved, divided := f, f, f
	for i := range longer.Parts {
		longer.Parts[i] *= 2
	}
	longer.Den *= 2
	moved.Parts[term] += by
	divided.Den += max(by, 1-f.Den)
	return []api.DamFit{f, longer, moved, divided, other}
}

// P9.2 and P9.7: nothing else than the fit is accepted.
func TestCheckFitAgainstModel(t *testing.T) {
	r := random(2)
	count := map[api.Errno]int{}
	for i := range 4000 {
		l := randomReadings(r)
		if i%3 == 0 {
			l = extremeReadings(r)
		}
		terms := between(r, 1, 31)
		f, e := dam.FitOf(l, terms)
		if e != api.OK {
			f = fitOf(1)
		}
		for _, changed := range changedFits(f, randomFit(r), chosen(r, -1, 1, 2, -30), r.IntN(5)) {
			if slices.Max(changed.Parts[:]) > api.MaxDamFit || slices.Min(changed.Parts[:]) < -api.MaxDamFit || changed.Den > api.MaxDamFit {
				continue
			}
			wantI, want := modelCheck(l, terms, changed)
			if i, e := dam.CheckFit(l, terms, changed); i != wantI || e != want {
				t.Fatal(l, terms, changed, i, e, wantI, want)
			}
			if e == api.OK && (want == api.OK) != (changed == f) {
				t.Fatal(l, terms, changed, want)
			}
			count[want]++
		}
	}
	if count[api.OK] < 500 || count[api.ErrForm] < 500 || count[api.ErrProof] < 500 {
		t.Error(count)
	}
}

// P9.2 and R2: the sums of an equation do not overflow.
func TestCheckFitAtLimits(t *testing.T) {
	const most = api.MaxDamFit
	for _, sign := range []int{-1, 1} {
		for _, day := range []int{35640, 35730, 35820, 35910, 36000} {
			l := slices.Repeat([]api.DamReading{{Day: day, Level: 50, Movement: 2000 * sign}}, 12)
			for _, f := range []api.DamFit{fitOf(most, -most, -most, -most, -most, -most), fitOf(most, most, most, most, most, most), fitOf(most-1, most, -most, most, -most, most), fitOf(1, -most, most, -most, most, -most), fitOf(most, 1-most, 0, 0, 0, -most)} {
				for _, terms := range []int{31, 16, 2, 18, 17} {
					wantI, want := modelCheck(l, terms, f)
					if i, e := dam.CheckFit(l, terms, f); i != wantI || e != want {
						t.Error(l[0], terms, f, i, e, wantI, want)
					}
				}
			}
		}
	}
}

// P9.7: changing the coefficients by whole numbers leaves no smaller sum of squares.
func TestNoSmallerSum(t *testing.T) {
	r := random(3)
	for range 1500 {
		l, terms := randomReadings(r), between(r, 1, 31)
		f, e := dam.FitOf(l, terms)
		if e != api.OK {
			continue
		}
		least := modelSquares(l, f)
		for range 5 {
			changed := f
			for _, term := range termsIn(terms) {
				changed.Parts[term] += f.Den * between(r, -2, 2)
			}
			if squares := modelSquares(l, changed); squares.Cmp(least) < 0 {
				t.Fatal(l, terms, f, changed)
			}
			if _, e := dam.CheckFit(l, terms, changed); (e == api.OK) != (changed == f) {
				t.Fatal(l, terms, changed, e)
			}
		}
	}
}

// P9.7: what is exactly a sum of the chosen terms has no residual.
func TestExactSums(t *testing.T) {
	r := random(4)
	fits := 0
	for range 1500 {
		l, terms := randomReadings(r), between(r, 1, 31)
		want := fitOf(1)
		for _, term := range termsIn(terms) {
			want.Parts[term] = between(r, -6, 6)
		}
		for i := range l {
			l[i].Movement = int(modelSum(want, l[i], 0, 1, 2, 3, 4).Num().Int64())
		}
		f, e := dam.FitOf(l, terms)
		if e == api.ErrNone {
			continue
		}
		fits++
		residuals, residualsE := dam.ResidualsOf(l, f)
		spread, spreadE := dam.SpreadOf(l, f)
		if f != want || !slices.Equal(residuals, make([]api.Range, len(l))) || spread != 0 || e+residualsE+spreadE != api.OK {
			t.Fatal(l, terms, f, want, residuals, spread)
		}
	}
	if fits < 300 {
		t.Error(fits)
	}
}
