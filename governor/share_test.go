package governor_test

import (
	"math"
	"math/big"
	"math/rand/v2"
	"slices"
	"testing"

	"guidevane/api"
	"guidevane/governor"
)

func wholes(numbers ...int) []api.Frac {
	var l []api.Frac
	for _, n := range numbers {
		l = append(l, api.Frac{Num: n, Den: 1})
	}
	return l
}

// P6.7 and example 7.
func TestSharesOf(t *testing.T) {
	for _, c := range []struct {
		droops []int
		load   int
		want   []api.Frac
	}{
		{[]int{2, 3}, 10, wholes(6, 4)}, {[]int{3, 2}, 10, wholes(4, 6)}, {[]int{2, 3}, -10, wholes(-6, -4)}, {[]int{5}, 77, wholes(77)}, {[]int{20}, -100000, wholes(-100000)}, {[]int{2, 3}, 0, wholes(0, 0)}, {[]int{20, 19, 18}, 0, wholes(0, 0, 0)}, {[]int{4, 4}, 7, []api.Frac{{Num: 7, Den: 2}, {Num: 7, Den: 2}}},
		{[]int{1, 2}, 1, []api.Frac{{Num: 2, Den: 3}, {Num: 1, Den: 3}}}, {[]int{1, 2}, -1, []api.Frac{{Num: -2, Den: 3}, {Num: -1, Den: 3}}}, {[]int{2, 4, 4}, 2, []api.Frac{{Num: 1, Den: 1}, {Num: 1, Den: 2}, {Num: 1, Den: 2}}}, {[]int{1, 1, 1, 1, 1, 1}, 100000, []api.Frac{{Num: 50000, Den: 3}, {Num: 50000, Den: 3}, {Num: 50000, Den: 3}, {Num: 50000, Den: 3}, {Num: 50000, Den: 3}, {Num: 50000, Den: 3}}},
		{[]int{20, 20, 20, 20, 20, 20}, -99996, wholes(-16666, -16666, -16666, -16666, -16666, -16666)}, {[]int{1, 20}, 21, wholes(20, 1)}, {[]int{16, 17, 19, 13, 11, 9}, 1, []api.Frac{{Num: 415701, Den: 3012325}, {Num: 391248, Den: 3012325}, {Num: 350064, Den: 3012325}, {Num: 511632, Den: 3012325}, {Num: 604656, Den: 3012325}, {Num: 739024, Den: 3012325}}},
	} {
		if l, e := governor.SharesOf(c.droops, c.load); !slices.Equal(l, c.want) || e != api.OK {
			t.Error(c, l, e)
		}
	}
}

// P6.7: errors of droops and loads, in their order.
func TestBadShares(t *testing.T) {
	for _, c := range []struct {
		droops []int
		load   int
		want   api.Errno
	}{
		{nil, 10, api.ErrShape}, {[]int{}, 10, api.ErrShape}, {nil, 100001, api.ErrShape}, {nil, math.MinInt, api.ErrShape},
		{[]int{1, 1, 1, 1, 1, 1, 1}, 10, api.ErrLarge}, {make([]int, 7), 10, api.ErrLarge}, {[]int{1, 1, 1, 1, 1, 1, 21}, 100001, api.ErrLarge}, {slices.Repeat([]int{math.MinInt}, 1000), 10, api.ErrLarge},
		{[]int{16, 17, 19, 13, 11, 9}, 99999, api.ErrLarge}, {[]int{16, 17, 19, 13, 11, 9}, -99999, api.ErrLarge}, {[]int{16, 17, 19, 13, 11, 9}, 1354, api.ErrLarge}, {[]int{16, 17, 19, 13, 11, 9}, -1354, api.ErrLarge}, {[]int{16, 17, 19, 13, 11, 9}, 1353, api.OK}, {[]int{16, 17, 19, 13, 11, 9}, -1353, api.OK},
		{[]int{9, 11, 13, 19, 17, 16}, 1354, api.ErrLarge}, // only the first share is too large
	} {
		l, e := governor.SharesOf(c.droops, c.load)
		if e != c.want || e != api.OK && len(l) > 0 {
			t.Error(c, l, e)
		}
	}
	for _, droop := range outside(1, 20) {
		for i := range 6 {
			droops := []int{1, 2, 3, 4, 5, 6}
			droops[i] = droop
			for _, load := range []int{10, 100001, math.MinInt} {
				if l, e := governor.SharesOf(droops, load); len(l) > 0 || e != api.ErrRange {
					t.Error(droops, load, l, e)
				}
			}
		}
	}
	for _, load := range outside(-100000, 100000) {
		for _, droops := range [][]int{{1}, {2, 3}, {16, 17, 19, 13, 11, 9}} {
			if l, e := governor.SharesOf(droops, load); len(l) > 0 || e != api.ErrRange {
				t.Error(droops, load, l, e)
			}
		}
	}
}

func randomDroops(r *rand.Rand) []int {
	var droops []int
	least, most := chosen(r, 1, 1, 7), chosen(r, 8, 10, 20)
	for range chosen(r, 6, between(r, 1, 6)) {
		droops = append(droops, between(r, least, most))
	}
	return droops
}

// P6.7 and P6.14: the shares add up to the load, and a share times its droop is the same for all machines.
func TestSharesAgainstModel(t *testing.T) {
	r := random(26)
	large, good := 0, 0
	for range 20000 {
		droops, load := randomDroops(r), between(r, -100000, 100000)
		want := api.OK
		shares := modelShares(droops, load)
		for _, share := range shares {
			if new(big.Int).Abs(share.Num()).Cmp(big.NewInt(api.MaxPart)) > 0 || share.Denom().Cmp(big.NewInt(api.MaxPart)) > 0 {
				want = api.ErrLarge
			}
		}
		l, e := governor.SharesOf(droops, load)
		if e != want {
			t.Fatal(droops, load, l, e)
		}
		if e != api.OK {
			large++
			continue
		}
		good++
		sum, same := new(big.Rat), new(big.Rat)
		for i, f := range l {
			x := big.NewRat(int64(f.Num), int64(f.Den))
			if x.Cmp(shares[i]) != 0 || x.Num().Int64() != int64(f.Num) || x.Denom().Int64() != int64(f.Den) {
				t.Fatal(droops, load, l)
			}
			sum.Add(sum, x)
			moved := new(big.Rat).Mul(x, big.NewRat(int64(droops[i]), 1))
			if i > 0 && moved.Cmp(same) != 0 {
				t.Fatal(droops, load, l)
			}
			same = moved
		}
		if len(l) != len(droops) || sum.Cmp(big.NewRat(int64(load), 1)) != 0 {
			t.Fatal(droops, load, l)
		}
	}
	if large < 200 || good < 5000 {
		t.Error(large, good)
	}
}
