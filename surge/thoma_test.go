package surge_test

import (
	"math/big"
	"testing"

	"guidevane/api"
	"guidevane/surge"
)

func thomaOf(length, section, loss, head, machines int) api.SurgeThoma {
	return api.SurgeThoma{Length: length, Section: section, Loss: loss, Head: head, Machines: machines}
}

// badThomas returns what has a number outside its range, one at a time.
func badThomas() []api.SurgeThoma {
	var l []api.SurgeThoma
	for _, n := range outside(1, 1000) {
		l = append(l, thomaOf(n, 1, 1, 1, 1), thomaOf(1, n, 1, 1, 1), thomaOf(1, 1, n, 1, 1), thomaOf(1, 1, 1, n, 1), thomaOf(n, n, n, n, 1))
	}
	for _, n := range outside(1, 6) {
		l = append(l, thomaOf(1, 1, 1, 1, n))
	}
	return append(l, thomaOf(1001, 1000, 1, 1, 6), thomaOf(1000, 1000, 1, 1, 7), api.SurgeThoma{})
}

// P4.3.
func TestThomaOf(t *testing.T) {
	for _, c := range []struct {
		x    api.SurgeThoma
		want api.Frac
		e    api.Errno
	}{
		{thomaOf(100, 20, 50, 400, 1), api.Frac{Num: 50, Den: 1}, api.OK},
		{thomaOf(100, 20, 50, 400, 2), api.Frac{Num: 100, Den: 1}, api.OK},
		{thomaOf(1, 1, 1, 1, 1), api.Frac{Num: 500, Den: 1}, api.OK},
		{thomaOf(1, 1, 1000, 1000, 1), api.Frac{Num: 1, Den: 2000}, api.OK},
		{thomaOf(1, 1, 999, 997, 1), api.Frac{Num: 500, Den: 996003}, api.OK},
		{thomaOf(7, 11, 3, 13, 5), api.Frac{Num: 192500, Den: 39}, api.OK},
		{thomaOf(1000, 1000, 1000, 1000, 6), api.Frac{Num: 3000, Den: 1}, api.OK},
		{thomaOf(1000, 1000, 1, 1, 2), api.Frac{Num: 1000000000, Den: 1}, api.OK},
		{thomaOf(1000, 1000, 1, 1, 3), api.Frac{}, api.ErrLarge},
		{thomaOf(1000, 1000, 1, 1, 6), api.Frac{}, api.ErrLarge},
		{thomaOf(1000, 1000, 1, 7, 2), api.Frac{Num: 1000000000, Den: 7}, api.OK},
		{thomaOf(1000, 1000, 1, 7, 3), api.Frac{}, api.ErrLarge}, // the fraction is less than MaxPart, but its part is not
		{thomaOf(1000, 1000, 3, 1, 6), api.Frac{Num: 1000000000, Den: 1}, api.OK},
		{thomaOf(1000, 1000, 997, 991, 6), api.Frac{}, api.ErrLarge},
		{thomaOf(1000, 667, 1, 1, 3), api.Frac{}, api.ErrLarge}, // 1000500000
		{thomaOf(1000, 666, 1, 1, 3), api.Frac{Num: 999000000, Den: 1}, api.OK},
	} {
		if f, e := surge.ThomaOf(c.x); f != c.want || e != c.e {
			t.Error(c, f, e)
		}
	}
	for _, x := range badThomas() {
		if got := call(surge.ThomaOf(x)); !failed(got, api.ErrRange) {
			t.Error(x, got)
		}
	}
}

// modelThoma returns Thoma's area.
func modelThoma(x api.SurgeThoma) *big.Rat {
	return new(big.Rat).SetFrac(bigProduct(x.Length, x.Section, 1000, x.Machines), bigProduct(2, x.Loss, x.Head))
}

// P4.3, edge case: Thoma's area itself is not damped.
func TestIsDamped(t *testing.T) {
	one, two, odd, most := thomaOf(100, 20, 50, 400, 1), thomaOf(100, 20, 50, 400, 2), thomaOf(1, 1, 1000, 999, 1), thomaOf(1000, 1000, 1, 1, 6)
	for _, c := range []struct {
		x      api.SurgeThoma
		lo, hi int
		want   int
	}{
		{one, 60, 70, api.AnswerYes}, {two, 60, 70, api.AnswerNo}, {one, 40, 60, api.AnswerMaybe}, {one, 50, 50, api.AnswerNo}, {one, 51, 51, api.AnswerYes}, {one, 49, 50, api.AnswerNo}, {one, 50, 51, api.AnswerMaybe}, {one, 51, 1000000000, api.AnswerYes}, {one, 0, 0, api.AnswerNo}, {one, 0, 1000000000, api.AnswerMaybe}, {one, 0, 50, api.AnswerNo},
		{two, 100, 100, api.AnswerNo}, {two, 101, 101, api.AnswerYes}, {two, 99, 101, api.AnswerMaybe},
		{odd, 0, 0, api.AnswerNo}, {odd, 0, 1, api.AnswerMaybe}, {odd, 1, 1, api.AnswerYes},
		{most, 0, 1000000000, api.AnswerNo}, {most, 1000000000, 1000000000, api.AnswerNo}, {thomaOf(1000, 1000, 1, 4, 6), 750000000, 750000000, api.AnswerNo}, {thomaOf(1000, 1000, 1, 4, 6), 750000001, 750000001, api.AnswerYes}, {thomaOf(1000, 1000, 1, 1, 2), 0, 1000000000, api.AnswerNo},
		{thomaOf(1000, 1000, 997, 991, 6), 3036, 3037, api.AnswerMaybe}, {thomaOf(1000, 1000, 997, 991, 6), 3037, 3037, api.AnswerYes}, {thomaOf(1000, 1000, 997, 991, 6), 0, 3036, api.AnswerNo}, // ThomaOf would return ErrLarge
		{thomaOf(1, 1, 1000, 1000, 1), 1000000000, 1000000000, api.AnswerYes},
	} {
		if n, e := surge.IsDamped(c.x, api.Range{Lo: c.lo, Hi: c.hi}); n != c.want || e != api.OK {
			t.Error(c, n, e)
		}
	}
	for _, x := range badThomas() {
		for _, areas := range []api.Range{{}, {Lo: 1, Hi: 1000000000}, {Lo: 1, Hi: 0}, {Lo: -1}} {
			if got := call(surge.IsDamped(x, areas)); !failed(got, api.ErrRange) {
				t.Error(x, areas, got)
			}
		}
	}
	for _, n := range outside(0, api.MaxPart) {
		for _, areas := range []api.Range{{Lo: n, Hi: 500}, {Lo: 500, Hi: n}, {Lo: n, Hi: n}} {
			if got := call(surge.IsDamped(one, areas)); !failed(got, api.ErrRange) {
				t.Error(areas, got)
			}
		}
	}
	for _, areas := range []api.Range{{Lo: 1, Hi: 0}, {Lo: 60, Hi: 59}, {Lo: 1000000000, Hi: 0}} {
		if got := call(surge.IsDamped(one, areas)); !failed(got, api.ErrOrder) {
			t.Error(areas, got)
		}
	}
}

// P4.3 and P4.12.
func TestThomaAgainstModel(t *testing.T) {
	r := random(7)
	for range 20000 {
		most := chosen(r, 5, 30, api.MaxSurgeThoma)
		x := thomaOf(between(r, 1, most), between(r, 1, most), between(r, 1, most), between(r, 1, most), between(r, 1, 6))
		model := modelThoma(x)
		large := big.NewInt(api.MaxPart)
		f, e := surge.ThomaOf(x)
		if (model.Num().Cmp(large) > 0 || model.Denom().Cmp(large) > 0) != (e == api.ErrLarge) {
			t.Fatal(x, f, e)
		}
		if e == api.OK && (model.Num().Cmp(big.NewInt(int64(f.Num))) != 0 || model.Denom().Cmp(big.NewInt(int64(f.Den))) != 0) {
			t.Fatal(x, f, model)
		}
		floor := int(new(big.Int).Div(model.Num(), model.Denom()).Int64())
		lo := min(max(0, floor+between(r, -3, 3)), api.MaxPart)
		areas := api.Range{Lo: lo, Hi: min(lo+r.IntN(4), api.MaxPart)}
		want := api.AnswerMaybe
		if big.NewRat(int64(areas.Lo), 1).Cmp(model) > 0 {
			want = api.AnswerYes
		} else if big.NewRat(int64(areas.Hi), 1).Cmp(model) <= 0 {
			want = api.AnswerNo
		}
		n, e := surge.IsDamped(x, areas)
		if n != want || e != api.OK {
			t.Fatal(x, areas, n, e)
		}
		more := r.IntN(3)
		greater := api.Range{Lo: areas.Lo + more, Hi: areas.Hi + more + r.IntN(3)}
		if m, e := surge.IsDamped(x, greater); e == api.OK && m < n {
			t.Fatal(x, areas, n, greater, m)
		}
	}
}

// P4.12.
func TestTwoMachines(t *testing.T) {
	r := random(8)
	for range 5000 {
		most := chosen(r, 5, 30, api.MaxSurgeThoma)
		x := thomaOf(between(r, 1, most), between(r, 1, most), between(r, 1, most), between(r, 1, most), 1)
		one, e := surge.ThomaOf(x)
		x.Machines = 2
		two, f := surge.ThomaOf(x)
		if e != api.OK || f != api.OK || big.NewRat(int64(2*one.Num), int64(one.Den)).Cmp(big.NewRat(int64(two.Num), int64(two.Den))) != 0 {
			t.Fatal(x, one, e, two, f)
		}
	}
}
