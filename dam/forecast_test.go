package dam_test

import (
	"math/big"
	"slices"
	"testing"

	"guidevane/api"
	"guidevane/dam"
)

// P9.2 and example 3.
func TestResidualsOf(t *testing.T) {
	for _, c := range []struct {
		l    []api.DamReading
		f    api.DamFit
		want []api.Range
		most int
	}{
		{exampleReadings(), exampleFit(), []api.Range{{Lo: -1}, {Hi: 1}, {Hi: 1}}, 1},
		{exampleReadings(), fitOf(1), []api.Range{{Lo: 100, Hi: 100}, {Lo: 130, Hi: 130}, {Lo: 72, Hi: 72}}, 130},
		{exampleReadings(), fitOf(1, 90), []api.Range{{Lo: 10, Hi: 10}, {Lo: 40, Hi: 40}, {Lo: -18, Hi: -18}}, 40},
		{exampleReadings(), fitOf(2, 281), []api.Range{{Lo: -41, Hi: -40}, {Lo: -11, Hi: -10}, {Lo: -69, Hi: -68}}, 69},
		{exampleReadings()[:1], fitOf(3, 299, 7, 7, 7, 7), []api.Range{{Lo: -2, Hi: -2}}, 2},
		{[]api.DamReading{{Day: 455, Level: -3, Movement: -2}}, fitOf(10, 1, 20, 300, 4000, 50000), []api.Range{{Lo: -5397, Hi: -5396}}, 5397},
		{[]api.DamReading{{Day: 300, Movement: 2000}}, fitOf(api.MaxDamFit, 0, 0, 0, 1), []api.Range{{Lo: 2000, Hi: 2001}}, 2001},
		{[]api.DamReading{{Day: 300, Movement: -2000}}, fitOf(api.MaxDamFit, 0, 0, 0, -1), []api.Range{{Lo: -2001, Hi: -2000}}, 2001},
		{[]api.DamReading{{Day: 36000, Level: 50, Movement: -2000}}, fitOf(1, 1e12, 1e12, 1e12, 1e12, 1e12), []api.Range{{Lo: -152000000002000, Hi: -152000000002000}}, 152000000002000},
		{[]api.DamReading{{Day: 36000, Level: -50, Movement: 2000}}, fitOf(1, -1e12, 1e12, -1e12, 1e12, -1e12), []api.Range{{Lo: 152000000002000, Hi: 152000000002000}}, 152000000002000},
	} {
		if l, e := dam.ResidualsOf(c.l, c.f); !slices.Equal(l, c.want) || e != api.OK {
			t.Error(c, l, e)
		}
		if n, e := dam.SpreadOf(c.l, c.f); n != c.most || e != api.OK {
			t.Error(c, n, e)
		}
	}
}

// P9.2 and example 4. The movement does not matter.
func TestForecastOf(t *testing.T) {
	for _, c := range []struct {
		f    api.DamFit
		r    api.DamReading
		want api.Range
	}{
		{exampleFit(), api.DamReading{Level: 20}, api.Range{Lo: 157, Hi: 160}},
		{exampleFit(), api.DamReading{Level: 20, Movement: 2000}, api.Range{Lo: 157, Hi: 160}},
		{exampleFit(), api.DamReading{Day: 777, Level: 20, Movement: -1}, api.Range{Lo: 157, Hi: 160}},
		{exampleFit(), api.DamReading{Level: -50}, api.Range{Lo: -46, Hi: -43}},
		{fitOf(1), api.DamReading{Day: 36000}, api.Range{Lo: -130, Hi: 130}},
		{fitOf(1, 100), api.DamReading{Level: 9}, api.Range{Lo: 70, Hi: 130}},
		{fitOf(1, 100, 0, 5, 7, 3), api.DamReading{Day: 1}, api.Range{Lo: 72, Hi: 138}},
		{fitOf(1, 100, 0, 5, 7, 3), api.DamReading{Day: 360 + 180}, api.Range{Lo: 65, Hi: 131}},
		{fitOf(1, 100, 0, 5, 7, 3), api.DamReading{Day: 720 + 270}, api.Range{Lo: 66, Hi: 132}},
	} {
		if got, e := dam.ForecastOf(exampleReadings(), c.f, c.r); got != c.want || e != api.OK {
			t.Error(c, got, e)
		}
	}
}

// P9.2 and example 4.
func TestSharesOf(t *testing.T) {
	for _, c := range []struct {
		f    api.DamFit
		r    api.DamReading
		want [3]api.Range
	}{
		{exampleFit(), api.DamReading{Level: 20}, [3]api.Range{{Lo: 58, Hi: 58}, {}, {Lo: 100, Hi: 101}}},
		{fitOf(10, 1, 20, 300, 4000, 50000), api.DamReading{Day: 455, Level: -3, Movement: 9}, [3]api.Range{{Lo: -6, Hi: -6}, {Lo: 400, Hi: 400}, {Lo: 5000, Hi: 5001}}},
		{fitOf(7, -1, 3, 5, 6, 0), api.DamReading{Day: 359, Level: 1}, [3]api.Range{{Lo: 0, Hi: 1}, {Lo: -1, Hi: 0}, {Lo: -1, Hi: 0}}},
		{fitOf(7, -1, 3, 5, 6, 1), api.DamReading{Day: 180 + 720, Level: -5}, [3]api.Range{{Lo: -3, Hi: -2}, {Lo: -1, Hi: 0}, {Lo: 0, Hi: 1}}},
		{fitOf(1, -1e12, 1e12, 1e12, -1e12, -1e12), api.DamReading{Day: 36000, Level: -50}, [3]api.Range{{Lo: -50000000000000, Hi: -50000000000000}, {Lo: 1000000000000, Hi: 1000000000000}, {Lo: -101000000000000, Hi: -101000000000000}}},
	} {
		if got, e := dam.SharesOf(c.f, c.r); got != c.want || e != api.OK {
			t.Error(c, got, e)
		}
	}
}

// P9.2 and P9.8: ranges of all fits, also of those that are not the best, are what fractions of any size are rounded to; the ranges of the shares contain parts that add up to what the fit gives.
func TestForecastsAgainstModel(t *testing.T) {
	r := random(7)
	for i := range 5000 {
		l, f := randomReadings(r), randomFit(r)
		if best, e := dam.FitOf(l, between(r, 1, 31)); e == api.OK && i%2 == 0 {
			f = best
		}
		x := chosen(r, append(randomReadings(r), l...)...)
		residuals, residualsE := dam.ResidualsOf(l, f)
		for k, got := range residuals {
			if want := modelRounded(modelResidual(f, l[k])); got != want || len(residuals) != len(l) {
				t.Fatal(l, f, k, got, want)
			}
		}
		spread, spreadE := dam.SpreadOf(l, f)
		given := modelSum(f, x, 0, 1, 2, 3, 4)
		want := modelRounded(given)
		want.Lo, want.Hi = want.Lo-modelSpread(l, f), want.Hi+modelSpread(l, f)
		forecast, forecastE := dam.ForecastOf(l, f, x)
		if spread != modelSpread(l, f) || forecast != want || residualsE+spreadE+forecastE != api.OK {
			t.Fatal(l, f, x, spread, forecast, want)
		}
		shares, e := dam.SharesOf(f, x)
		wantShares := [3]api.Range{modelRounded(modelSum(f, x, 1)), modelRounded(modelSum(f, x, 2, 3)), modelRounded(modelSum(f, x, 0, 4))}
		if shares != wantShares || e != api.OK {
			t.Fatal(f, x, shares, wantShares, e)
		}
		lo, hi := shares[0].Lo+shares[1].Lo+shares[2].Lo, shares[0].Hi+shares[1].Hi+shares[2].Hi
		if given.Cmp(rat(lo)) < 0 || given.Cmp(rat(hi)) > 0 {
			t.Fatal(f, x, shares, given)
		}
	}
}

// P9.8: the exact shares add up to what the fit gives.
func TestSharesAddUp(t *testing.T) {
	r := random(8)
	for range 1000 {
		f := randomFit(r)
		f.Den = 1
		x := chosen(r, randomReadings(r)...)
		shares, e := dam.SharesOf(f, x)
		sum := new(big.Rat)
		for _, share := range shares {
			if share.Lo != share.Hi {
				t.Fatal(f, x, shares)
			}
			sum.Add(sum, rat(share.Lo))
		}
		if sum.Cmp(modelSum(f, x, 0, 1, 2, 3, 4)) != 0 || e != api.OK {
			t.Fatal(f, x, shares, e)
		}
	}
}

// ofFit is every function with readings and a fit, but for CheckFit.
func ofFit(l []api.DamReading, f api.DamFit, x api.DamReading) [][]any {
	return [][]any{call(dam.ResidualsOf(l, f)), call(dam.SpreadOf(l, f)), call(dam.ForecastOf(l, f, x))}
}

// P9.2: errors of the readings, of the fit, and of the reading, in this order.
func TestForecastErrors(t *testing.T) {
	expect := func(want api.Errno, results ...[]any) {
		t.Helper()
		for i, got := range results {
			if !failed(got, want) {
				t.Error(i, got, want)
			}
		}
	}
	for want, lists := range badLists() {
		for _, l := range lists {
			for _, f := range []api.DamFit{exampleFit(), {}} {
				expect(want, ofFit(l, f, api.DamReading{})...)
				expect(want, ofFit(l, f, api.DamReading{Day: -1})...)
			}
		}
	}
	for _, f := range badFits() {
		for _, x := range []api.DamReading{{}, {Level: 51}} {
			expect(api.ErrRange, ofFit(exampleReadings(), f, x)...)
			expect(api.ErrRange, call(dam.SharesOf(f, x)))
		}
	}
	for _, x := range badReadings() {
		expect(api.ErrRange, call(dam.ForecastOf(exampleReadings(), exampleFit(), x)), call(dam.SharesOf(exampleFit(), x)))
	}
}
