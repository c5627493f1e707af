package governor

import (
	"slices"

	"guidevane/api"
)

// channels are the values of three channels that are there.
type channels [3]int

// VoteOf returns the vote of three channels with a tolerance.
func VoteOf(x [3]api.GovernorReading, tolerance int) (api.GovernorVote, api.Errno) {
	if e := first(checkEach(x[:], checkReading), checkWithin(tolerance, 0, api.MaxGovernorReading)); e != api.OK {
		return api.GovernorVote{}, e
	}
	switch there := valuesOf(x); len(there) {
	case 3:
		return channels{there[0], there[1], there[2]}.vote(tolerance)
	case 2:
		return voteOfTwo(there[0], there[1], tolerance)
	}
	return api.GovernorVote{}, api.ErrGap
}

func checkReading(r api.GovernorReading) api.Errno {
	if r.Missing {
		return unless(r.Value == 0, api.ErrForm)
	}
	return checkUpTo(r.Value, api.MaxGovernorReading)
}

// valuesOf returns the values of the channels that are there.
func valuesOf(x [3]api.GovernorReading) []int {
	var values []int
	for _, r := range x {
		if !r.Missing {
			values = append(values, r.Value)
		}
	}
	return values
}

func (c channels) vote(tolerance int) (api.GovernorVote, api.Errno) {
	vote := api.GovernorVote{Value: c.median()}
	odd := 0
	for i, value := range c {
		if !agree(value, vote.Value, tolerance) {
			vote.Odd[i] = true
			odd++
		}
	}
	if odd > 1 {
		return api.GovernorVote{}, api.ErrClash
	}
	return vote, api.OK
}

// median sorts a copy, as the receiver is an array.
func (c channels) median() int {
	slices.Sort(c[:])
	return c[1]
}

func voteOfTwo(a, b, tolerance int) (api.GovernorVote, api.Errno) {
	if !agree(a, b, tolerance) {
		return api.GovernorVote{}, api.ErrClash
	}
	// A shift rounds down, also below 0.
	return api.GovernorVote{Value: (a + b) >> 1}, api.OK
}

// agree returns whether two values differ by at most the tolerance.
func agree(a, b, tolerance int) bool {
	return sizeOf(a-b) <= tolerance
}
