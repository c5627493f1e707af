package governor_test

import (
	"math"
	"testing"

	"guidevane/api"
	"guidevane/governor"
)

// missing is the value by which readings names a channel that is missing.
const missing = math.MaxInt

// readings returns three channels.
func readings(values ...int) [3]api.GovernorReading {
	var x [3]api.GovernorReading
	for i, n := range values {
		x[i] = api.GovernorReading{Value: n}
		if n == missing {
			x[i] = api.GovernorReading{Missing: true}
		}
	}
	return x
}

// P6.7 and example 8.
func TestVoteOf(t *testing.T) {
	for _, c := range []struct {
		x         [3]api.GovernorReading
		tolerance int
		value     int
		odd       [3]bool
	}{
		{readings(100, 103, 200), 5, 103, [3]bool{2: true}}, {readings(200, 100, 103), 5, 103, [3]bool{true}}, {readings(103, 200, 100), 5, 103, [3]bool{1: true}}, {readings(100, 103, -200), 5, 100, [3]bool{2: true}}, {readings(100, 103, 105), 5, 103, [3]bool{}}, {readings(100, 105, 110), 5, 105, [3]bool{}}, {readings(100, 105, 111), 5, 105, [3]bool{2: true}}, {readings(111, 105, 100), 5, 105, [3]bool{true}}, {readings(105, 99, 110), 5, 105, [3]bool{1: true}},
		{readings(7, 7, 7), 0, 7, [3]bool{}}, {readings(7, 7, 8), 0, 7, [3]bool{2: true}}, {readings(6, 7, 7), 0, 7, [3]bool{true}}, {readings(-1000000, -1000000, 1000000), 1000000, -1000000, [3]bool{2: true}}, {readings(-1000000, 0, 1000000), 1000000, 0, [3]bool{}}, {readings(-1000000, 1, 1000000), 1000000, 1, [3]bool{true}}, {readings(0, 0, 0), 1000000, 0, [3]bool{}},
		{readings(100, 103, missing), 5, 101, [3]bool{}}, {readings(100, missing, 103), 5, 101, [3]bool{}}, {readings(missing, 103, 100), 5, 101, [3]bool{}}, {readings(-100, -103, missing), 5, -102, [3]bool{}}, {readings(100, 105, missing), 5, 102, [3]bool{}}, {readings(105, 100, missing), 5, 102, [3]bool{}}, {readings(-1, 0, missing), 1, -1, [3]bool{}}, {readings(0, 1, missing), 1, 0, [3]bool{}}, {readings(-3, 2, missing), 5, -1, [3]bool{}}, {readings(4, 4, missing), 0, 4, [3]bool{}}, {readings(missing, 1000000, 1000000), 0, 1000000, [3]bool{}}, {readings(-1000000, missing, -999999), 1, -1000000, [3]bool{}}, {readings(0, 1000000, missing), 1000000, 500000, [3]bool{}},
	} {
		want := api.GovernorVote{Value: c.value, Odd: c.odd}
		if v, e := governor.VoteOf(c.x, c.tolerance); v != want || e != api.OK {
			t.Error(c, v, e)
		}
		if v, e := modelVote(c.x, c.tolerance); v != want || e != api.OK {
			t.Error(c, v, e)
		}
	}
}

// P6.7: errors of channels and tolerances, in their order.
func TestBadVotes(t *testing.T) {
	type bad struct {
		x         [3]api.GovernorReading
		tolerance int
		want      api.Errno
	}
	l := []bad{
		{readings(1, missing, missing), 5, api.ErrGap}, {readings(missing, 1, missing), 5, api.ErrGap}, {readings(missing, missing, 1), 5, api.ErrGap}, {readings(missing, missing, missing), 5, api.ErrGap}, {readings(missing, missing, missing), 0, api.ErrGap},
		{readings(100, 106, missing), 5, api.ErrClash}, {readings(106, missing, 100), 5, api.ErrClash}, {readings(missing, 100, 106), 5, api.ErrClash}, {readings(missing, -1000000, 1000000), 1000000, api.ErrClash}, {readings(0, 1, missing), 0, api.ErrClash},
		{readings(100, 106, 112), 5, api.ErrClash}, {readings(112, 106, 100), 5, api.ErrClash}, {readings(106, 112, 100), 5, api.ErrClash}, {readings(1, 2, 3), 0, api.ErrClash}, {readings(-1000000, 0, 1000000), 999999, api.ErrClash}, {readings(0, 200, 100), 5, api.ErrClash},
	}
	for _, n := range outside(0, 1000000) {
		for _, x := range [][3]api.GovernorReading{readings(1, 1, 1), readings(1, missing, missing), readings(1, 100, missing), readings(1, 100, 200)} {
			l = append(l, bad{x, n, api.ErrRange})
		}
	}
	for i := range 3 {
		for _, rest := range [][3]api.GovernorReading{readings(1, 1, 1), readings(missing, missing, missing), readings(1, 100, 1000)} {
			for _, n := range outside(-1000000, 1000000) {
				x := rest
				x[i] = api.GovernorReading{Value: n}
				l = append(l, bad{x, 5, api.ErrRange}, bad{x, -1, api.ErrRange})
				for k := i + 1; k < 3; k++ {
					x[k] = api.GovernorReading{Value: 1, Missing: true}
					l = append(l, bad{x, 5, api.ErrRange})
				}
			}
			for _, n := range []int{1, -1, 1000000, 1000001, math.MinInt, math.MaxInt} {
				x := rest
				x[i] = api.GovernorReading{Value: n, Missing: true}
				l = append(l, bad{x, 5, api.ErrForm}, bad{x, -1, api.ErrForm})
				for k := i + 1; k < 3; k++ {
					x[k] = api.GovernorReading{Value: 1000001}
					l = append(l, bad{x, 5, api.ErrForm})
				}
			}
		}
	}
	for _, c := range l {
		if v, e := governor.VoteOf(c.x, c.tolerance); v != (api.GovernorVote{}) || e != c.want {
			t.Error(c, v, e)
		}
	}
}

// P6.7: votes of random channels.
func TestVotesAgainstModel(t *testing.T) {
	r := random(27)
	counts := map[api.Errno]int{}
	odd := 0
	for range 50000 {
		most := chosen(r, 1, 5, 100, 1000000)
		var values []int
		for range 3 {
			values = append(values, chosen(r, between(r, -most, most), between(r, -most, most), missing))
		}
		x, tolerance := readings(values...), between(r, 0, most)
		want, error := modelVote(x, tolerance)
		if v, e := governor.VoteOf(x, tolerance); v != want || e != error {
			t.Fatal(x, tolerance, v, e)
		}
		counts[error]++
		if want.Odd != ([3]bool{}) {
			odd++
		}
	}
	for _, e := range []api.Errno{api.OK, api.ErrGap, api.ErrClash} {
		if counts[e] < 1000 || odd < 1000 {
			t.Error(counts, odd)
		}
	}
}

// P6.15: with at most one channel that is wrong, and two others that differ by at most the tolerance, the vote differs from each of these by at most the tolerance.
func TestVotesOfTwoGoodChannels(t *testing.T) {
	r := random(28)
	wrong := 0
	for range 30000 {
		most := chosen(r, 1, 5, 100, 500000)
		tolerance := between(r, 0, most)
		good := between(r, -most, most)
		other := good + between(r, -tolerance, tolerance)
		third := chosen(r, missing, between(r, -1000000, 1000000), between(r, -2*most, 2*most), good, other+tolerance, good-tolerance-1)
		at := r.IntN(3)
		var values [3]int
		values[at], values[(at+1)%3], values[(at+2)%3] = third, good, other
		if third != missing && size(third) > 1000000 {
			continue
		}
		v, e := governor.VoteOf(readings(values[:]...), tolerance)
		if e != api.OK || size(v.Value-good) > tolerance || size(v.Value-other) > tolerance {
			t.Fatal(values, tolerance, v, e)
		}
		// A good channel is never overruled.
		if v.Odd[(at+1)%3] || v.Odd[(at+2)%3] {
			t.Fatal(values, tolerance, v)
		}
		if v.Odd[at] {
			wrong++
		}
	}
	if wrong < 1000 {
		t.Error(wrong)
	}
}
