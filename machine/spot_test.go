package machine_test

import (
	"math"
	"math/big"
	"testing"

	"guidevane/api"
	"guidevane/machine"
)

// badFracs returns fractions with an error as a number of a spot.
func badFracs() []badOpening {
	l := []badOpening{
		{api.Frac{}, api.ErrForm}, {api.Frac{Num: 5}, api.ErrForm}, {api.Frac{Num: 5, Den: -1}, api.ErrForm}, {api.Frac{Num: -5, Den: -1}, api.ErrForm}, {api.Frac{Num: 0, Den: 2}, api.ErrForm}, {api.Frac{Num: 0, Den: 20000}, api.ErrForm},
		{api.Frac{Num: 2, Den: 2}, api.ErrForm}, {api.Frac{Num: -6, Den: 4}, api.ErrForm}, {api.Frac{Num: 20002, Den: 2}, api.ErrForm}, {api.Frac{Num: 2, Den: 20002}, api.ErrForm}, {api.Frac{Num: math.MinInt, Den: 2}, api.ErrForm},
		{api.Frac{Num: math.MinInt, Den: math.MinInt}, api.ErrForm}, {api.Frac{Num: 1, Den: math.MinInt}, api.ErrForm}, {api.Frac{Num: math.MaxInt, Den: math.MaxInt}, api.ErrForm}, {api.Frac{Num: math.MinInt, Den: -1}, api.ErrForm}, {api.Frac{Num: math.MaxInt}, api.ErrForm},
		{api.Frac{Num: 1, Den: 10001}, api.ErrRange}, {api.Frac{Num: -1, Den: 10001}, api.ErrRange}, {api.Frac{Num: 10001, Den: 10000}, api.ErrRange}, {api.Frac{Num: 1, Den: math.MaxInt}, api.ErrRange}, {api.Frac{Num: math.MinInt, Den: math.MaxInt}, api.ErrRange}, {api.Frac{Num: math.MinInt, Den: 3}, api.ErrRange},
	}
	for _, n := range outside(-10000, 10000) {
		l = append(l, badOpening{whole(n), api.ErrRange})
	}
	return l
}

type badSpot struct {
	spot api.MachineSpot
	want api.Errno
}

// badSpots returns spots for each error, and each order of two.
func badSpots() []badSpot {
	var l []badSpot
	form, large := api.Frac{}, whole(10001)
	for _, c := range badFracs() {
		for _, other := range []api.Frac{whole(0), whole(1), form, large} {
			l = append(l, badSpot{api.MachineSpot{Head: c.opening, Flow: other, Power: other}, c.want})
			l = append(l, badSpot{api.MachineSpot{Head: whole(0), Flow: c.opening, Power: other}, c.want})
		}
		l = append(l, badSpot{api.MachineSpot{Head: whole(0), Flow: whole(0), Power: c.opening}, c.want}, badSpot{api.MachineSpot{Head: whole(1), Flow: whole(1), Power: c.opening}, c.want})
	}
	return l
}

// P5.4: the error of the spot comes first.
func TestBadSpots(t *testing.T) {
	for _, c := range badSpots() {
		for i, got := range [][]any{call(machine.EfficiencyOf(c.spot)), call(machine.QuadrantOf(c.spot)), call(machine.MarginOf(c.spot, api.MachineTail{Tail: -1, Factor: math.MinInt})), call(machine.MarginOf(c.spot, api.MachineTail{}))} {
			if !failed(got, c.want) {
				t.Error(c, i, got)
			}
		}
	}
}

// P5.4, example 7, and the edge case of a pump.
func TestEfficiencyOf(t *testing.T) {
	for _, c := range []struct {
		spot api.MachineSpot
		want api.Frac
	}{
		{spot(100, 30, 2000), part(2, 3)}, {spot(100, 10, 500), part(1, 2)}, {spot(100, -10, -1300), part(13, 10)}, {spot(-100, 10, 500), part(-1, 2)}, {spot(100, -10, 500), part(-1, 2)}, {spot(-100, -10, 500), part(1, 2)}, {spot(100, 10, -500), part(-1, 2)},
		{spot(1, 1, 0), whole(0)}, {spot(10000, 10000, 0), whole(0)}, {spot(10000, -10000, 0), whole(0)}, {spot(10000, 10000, 10000), part(1, 10000)}, {spot(10000, 10000, 1), part(1, 100000000)}, {spot(1, 1, 10000), whole(10000)}, {spot(-7, 1, 1), part(-1, 7)},
		{spotOfParts(part(1, 2), part(3, 4), part(5, 6)), part(20, 9)}, {spotOfParts(part(-1, 2), part(3, 4), part(5, 6)), part(-20, 9)}, {spotOfParts(part(1, 10000), part(1, 10000), whole(10)), whole(1000000000)},
		{spotOfParts(part(1, 10000), part(-1, 10000), whole(10)), whole(-1000000000)}, {spotOfParts(whole(10000), whole(10000), part(1, 10)), part(1, 1000000000)}, {spotOfParts(whole(-10000), whole(10000), part(1, 10)), part(-1, 1000000000)},
		{spotOfParts(part(10000, 9999), part(10000, 9999), whole(0)), whole(0)},
	} {
		if f, e := machine.EfficiencyOf(c.spot); f != c.want || e != api.OK {
			t.Error(c, f, e)
		}
	}
	for want, l := range map[api.Errno][]api.MachineSpot{
		api.ErrZero: {spot(0, 1, 1), spot(1, 0, 1), spot(0, 0, 0), spot(0, 5, 0), spot(100, 0, -3)},
		api.ErrLarge: {
			spotOfParts(part(1, 10000), part(1, 10000), whole(11)), spotOfParts(part(1, 10000), part(1, 10000), whole(-11)), spotOfParts(whole(10000), whole(10000), part(1, 11)), spotOfParts(whole(10000), whole(-10000), part(1, 11)),
			spotOfParts(whole(10000), whole(10000), part(1, 10000)), spotOfParts(part(1, 10000), part(1, 10000), whole(10000)), spotOfParts(part(9973, 9967), part(9949, 9941), part(9931, 9929))},
	} {
		for _, s := range l {
			if got := call(machine.EfficiencyOf(s)); !failed(got, want) {
				t.Error(s, got)
			}
		}
	}
}

// randomSpot returns a spot without an error.
func randomSpot(r interface{ IntN(n int) int }) api.MachineSpot {
	most := []int{1, 5, 100, 10000}[r.IntN(4)]
	number := func() api.Frac { return lowest(r.IntN(2*most+1)-most, r.IntN(most)+1) }
	return api.MachineSpot{Head: number(), Flow: number(), Power: number()}
}

// P5.4: efficiencies and margins as fractions of any size.
func TestSpotsOfAnyFractions(t *testing.T) {
	r := random(16)
	count := map[api.Errno]int{}
	for range 20000 {
		s := randomSpot(r)
		f, e := machine.EfficiencyOf(s)
		if count[e]++; s.Head.Num == 0 || s.Flow.Num == 0 {
			if !failed(call(f, e), api.ErrZero) {
				t.Fatal(s, f, e)
			}
		} else if want, ok := fracOf(over(rat(s.Power), times(rat(s.Head), rat(s.Flow)))); f != want || (e == api.OK) != ok || !ok && e != api.ErrLarge {
			t.Fatal(s, f, e, want)
		}
		x := api.MachineTail{Tail: between(r, 0, 1000), Factor: between(r, 0, 1000)}
		taken := over(times(ratOf(x.Factor), new(big.Rat).Abs(rat(s.Flow))), ratOf(100))
		if want, ok := fracOf(less(ratOf(x.Tail), taken)); !ok {
			t.Fatal("a margin that is too large", s, x)
		} else if m, e := machine.MarginOf(s, x); m != want || e != api.OK {
			t.Fatal(s, x, m, e, want)
		}
	}
	if count[api.OK] < 1000 || count[api.ErrZero] < 1000 || count[api.ErrLarge] < 1000 {
		t.Error(count)
	}
}

// P5.4, example 8.
func TestQuadrantOf(t *testing.T) {
	for _, c := range []struct {
		spot api.MachineSpot
		want int
	}{
		{spot(100, 20, 1250), api.MachineTurbine}, {spot(100, 1, 1), api.MachineTurbine}, {spot(-100, 1, 1), api.MachineTurbine}, {spot(0, 10000, 10000), api.MachineTurbine}, {spotOfParts(whole(0), part(1, 9), part(1, 9)), api.MachineTurbine},
		{spot(100, -20, -1250), api.MachinePump}, {spot(-100, -1, -1), api.MachinePump}, {spot(0, -1, -1), api.MachinePump}, {spotOfParts(whole(0), part(-1, 9), part(-1, 9)), api.MachinePump},
		{spot(100, -20, 1250), api.MachineBrake}, {spot(100, 20, -1250), api.MachineBrake}, {spot(-100, -1, 1), api.MachineBrake}, {spot(0, 1, -1), api.MachineBrake}, {spotOfParts(whole(0), part(1, 9), part(-1, 9)), api.MachineBrake},
		{spot(100, 0, 1250), api.MachineNone}, {spot(100, 20, 0), api.MachineNone}, {spot(100, 0, 0), api.MachineNone}, {spot(0, 0, 0), api.MachineNone}, {spot(100, 0, -5), api.MachineNone}, {spot(100, -5, 0), api.MachineNone},
	} {
		if q, e := machine.QuadrantOf(c.spot); q != c.want || e != api.OK {
			t.Error(c, q, e)
		}
	}
}

// P5.4, example 8.
func TestMarginOf(t *testing.T) {
	for _, c := range []struct {
		spot api.MachineSpot
		tail api.MachineTail
		want api.Frac
	}{
		{spot(100, 20, 1250), api.MachineTail{Tail: 30, Factor: 100}, whole(10)}, {spot(100, -20, 1250), api.MachineTail{Tail: 30, Factor: 100}, whole(10)}, {spot(100, 20, 1250), api.MachineTail{Tail: 20, Factor: 100}, whole(0)}, {spot(100, 20, 1250), api.MachineTail{Tail: 19, Factor: 100}, whole(-1)},
		{spot(100, 20, 1250), api.MachineTail{Tail: 30, Factor: 1}, part(149, 5)}, {spot(100, 20, 1250), api.MachineTail{Tail: 30}, whole(30)}, {spot(100, 20, 1250), api.MachineTail{Factor: 1000}, whole(-200)}, {spot(0, 0, 0), api.MachineTail{}, whole(0)},
		{spot(0, 0, 0), api.MachineTail{Tail: 1000, Factor: 1000}, whole(1000)}, {spot(0, -10000, 0), api.MachineTail{Tail: 1000, Factor: 1000}, whole(-99000)}, {spot(0, 10000, 0), api.MachineTail{Factor: 1000}, whole(-100000)},
		{spotOfParts(whole(0), part(-7, 3), whole(0)), api.MachineTail{Tail: 1, Factor: 7}, part(251, 300)}, {spotOfParts(whole(0), part(1, 9999), whole(0)), api.MachineTail{Tail: 1000, Factor: 1}, part(999899999, 999900)},
	} {
		if m, e := machine.MarginOf(c.spot, c.tail); m != c.want || e != api.OK {
			t.Error(c, m, e)
		}
	}
	for _, n := range outside(0, 1000) {
		for _, x := range []api.MachineTail{{Tail: n}, {Factor: n}, {Tail: n, Factor: n}} {
			if got := call(machine.MarginOf(spot(100, 20, 1250), x)); !failed(got, api.ErrRange) {
				t.Error(x, got)
			}
		}
	}
}
