package sequence_test

import (
	"math"
	"math/rand/v2"
	"slices"
	"strconv"
	"testing"

	"guidevane/api"
	"guidevane/sequence"
)

// run is a run with a fault.
func run(f api.SequenceFault, commands ...int) api.SequenceRun {
	return api.SequenceRun{Fault: f, Commands: commands}
}

// P7.3; edge case: a command in a steady step whose needs are missing is lost.
func TestRunOf(t *testing.T) {
	up := api.SequenceStep{Safe: true, Exits: []int{0, 1}, Home: 1}
	for _, c := range []struct {
		plan  api.SequencePlan
		from  api.SequenceState
		run   api.SequenceRun
		want  []api.SequenceState
		ticks int
	}{
		{examplePlan(), at(rest, 0), run(fine(), start, stop), path(start, 0, turbine, 3, stop, 3, rest, 0), 52},
		{examplePlan(), at(rest, 0), run(fine(), start), path(start, 0, turbine, 3), 31},
		{examplePlan(), at(rest, 0), run(fine()), nil, 0},
		{examplePlan(), at(turbine, 0), run(fine()), nil, 0},
		{examplePlan(), at(rest, 0), run(seenOff(1), start), path(start, 0, stop, 3, rest, 0), 81},
		{examplePlan(), at(rest, 0), run(seenOff(1), start, start), path(start, 0, stop, 3, rest, 0, start, 0, stop, 3, rest, 0), 162},
		{examplePlan(), at(rest, 0), run(seenOn(1), start, stop), path(start, 0, turbine, 3, stop, 3, brake, 0, rest, 0), 122},
		{examplePlan(), at(turbine, 1), run(fine(), stop), path(stop, 1, rest, 0), 21},
		// Lost commands: the needs of the step 0 are missing.
		{mixed(), at(0, 4), run(fine(), 3), path(4, 4, 5, 4, 0, 5), 22},
		{mixed(), at(0, 4), run(fine(), 3, 3, 1), path(4, 4, 5, 4, 0, 5, 3, 5, 1, 5), 24},
		{mixed(), at(0, 0), run(fine(), 0, 0), path(4, 0, 5, 0, 3, 1, 0, 1), 33},
		{mixed(), at(0, 1), run(seenOff(0), 2, 1), path(4, 1, 5, 1, 3, 1, 1, 1), 33},
		// A command for the same step, and a trip to another steady step, are one turn.
		{planOf(0, 0, up, up), at(0, 0), run(fine(), 0, 1, 1, 0, 0, 0, 0, 1, 1, 0), path(0, 0, 1, 0, 1, 0, 0, 0, 0, 0, 0, 0, 0, 0, 1, 0, 1, 0, 0, 0), 10},
		{planOf(1, 0, up, api.SequenceStep{Needs: 1, Trip: 0, Exits: []int{1}, Home: 1}), at(1, 0), run(fine(), 1), path(0, 0), 1},
		{planOf(1, 0, up, api.SequenceStep{Needs: 1, Trip: 1, Exits: []int{0}}), at(1, 0), run(fine(), 0, 0, 0), path(1, 0, 1, 0, 1, 0), 3},
	} {
		if l, n, e := sequence.RunOf(c.plan, c.from, c.run); !slices.Equal(l, c.want) || n != c.ticks || e != api.OK {
			t.Error(c.from, c.run, l, n, e)
		}
	}
	l, n, e := sequence.RunOf(counter(), at(0, 31), run(fine(), 1))
	if len(l) != 62 || n != 77 || e != api.OK {
		t.Error(l, n, e)
	}
}

// P7.3: errors of runs, in their order.
func TestBadRuns(t *testing.T) {
	// The step 1 goes round, the step 2 leads there, the step 3 has no exits.
	round := planOf(1, 0,
		api.SequenceStep{Safe: true, Exits: []int{0, 1, 2, 3}, Home: 3},
		api.SequenceStep{Wait: 3, Time: 2, Next: 2},
		api.SequenceStep{Wait: 3, Time: 2, Off: 1, Next: 1, Back: 3},
		api.SequenceStep{Needs: 1, Trip: 1})
	eleven := slices.Repeat([]int{1}, 11)
	for _, c := range []struct {
		plan api.SequencePlan
		from api.SequenceState
		run  api.SequenceRun
		want api.Errno
	}{
		{examplePlan(), at(start, 0), run(fine()), api.ErrState}, {examplePlan(), at(stop, 3), run(fine(), 0), api.ErrState}, {examplePlan(), at(brake, 3), run(fine(), eleven...), api.ErrState},
		{examplePlan(), at(rest, 0), run(fine(), eleven...), api.ErrLarge}, {examplePlan(), at(rest, 0), run(fine(), make([]int, 100000)...), api.ErrLarge}, {sized(0, 1), at(0, 0), run(fine(), eleven...), api.ErrLarge},
		{examplePlan(), at(rest, 0), run(fine(), 0), api.ErrRefused}, {examplePlan(), at(rest, 0), run(fine(), -1), api.ErrRefused}, {examplePlan(), at(rest, 0), run(fine(), 2), api.ErrRefused}, {examplePlan(), at(rest, 0), run(fine(), math.MinInt), api.ErrRefused}, {examplePlan(), at(rest, 0), run(fine(), math.MaxInt), api.ErrRefused},
		{examplePlan(), at(rest, 0), run(fine(), start, start), api.ErrRefused}, {examplePlan(), at(rest, 0), run(fine(), start, stop, stop), api.ErrRefused}, {examplePlan(), at(rest, 0), run(seenOff(1), start, stop), api.ErrRefused},
		{examplePlan(), at(turbine, 0), run(fine(), start), api.ErrRefused}, // it would be lost, but is not one of the exits
		{mixed(), at(1, 2), run(fine(), 1), api.ErrRefused}, {mixed(), at(1, 0), run(fine(), -1), api.ErrRefused},
		{round, at(0, 0), run(fine(), 1), api.ErrNone}, {round, at(0, 0), run(fine(), 0, 0, 2, 7), api.ErrNone}, {round, at(0, 0), run(fine(), 0, 7, 2), api.ErrRefused},
		{round, at(0, 1), run(fine(), 2, 3), api.ErrRefused}, {round, at(0, 1), run(fine(), 2, 0), api.ErrRefused}, {trapPlan(), at(turbine, 3), run(seenOn(1), stop), api.ErrNone},
		{round, at(3, 0), run(fine(), 0), api.ErrRefused}, // no steady step would be entered again
	} {
		if got := call(sequence.RunOf(c.plan, c.from, c.run)); !failed(got, c.want) {
			t.Error(c.from, c.run, got, c.want)
		}
	}
	if l, n, e := sequence.RunOf(round, at(0, 1), run(fine(), 2)); !slices.Equal(l, path(2, 1, 3, 1)) || n != 4 || e != api.OK {
		t.Error(l, n, e)
	}
}

// P7.3: random runs.
func TestRunsAgainstModel(t *testing.T) {
	r := random(7)
	counts, long := map[api.Errno]int{}, 0
	for range 10000 {
		p := randomPlan(r, kind{5, 10, 4})
		s, f := randomState(r, p), randomFault(r, p)
		if p.Steps[s.Step].Wait > 0 {
			continue
		}
		commands, end := []int(nil), s
		for len(commands) < 10 && len(p.Steps[end.Step].Exits) > 0 && r.IntN(8) > 0 {
			commands = append(commands, chosen(r, p.Steps[end.Step].Exits...))
			if r.IntN(40) == 0 {
				commands[len(commands)-1] = between(r, -1, len(p.Steps))
			}
			l, _, e := modelRun(p, s, f, commands)
			if e != api.OK {
				break
			}
			end = l[len(l)-1]
		}
		want, ticks, error := modelRun(p, s, f, commands)
		if l, n, e := sequence.RunOf(p, s, run(f, commands...)); !slices.Equal(l, want) || n != ticks || e != error {
			t.Fatal(p, s, f, commands, l, n, e)
		}
		counts[error]++
		if len(commands) > 5 {
			long++
		}
	}
	for _, e := range []api.Errno{api.OK, api.ErrRefused, api.ErrNone} {
		if counts[e] < 100 || long < 300 {
			t.Error(counts, long)
		}
	}
}

// P7.5 and example 5.
func TestFastestWay(t *testing.T) {
	// Several ways from the step 0 to the step 6: 1 and 2 lead there at once, 3 with another command.
	several := func(first, second, third int) api.SequencePlan {
		moving := func(n int) api.SequenceStep { return api.SequenceStep{Wait: n, Time: n, Next: 6, Back: 6} }
		p := planOf(0, 0, api.SequenceStep{Safe: true, Exits: []int{1, 2, 3, 4}, Home: 1}, moving(first), moving(second), moving(third), api.SequenceStep{Exits: []int{5}, Home: 5}, api.SequenceStep{Wait: 8, Time: 8, Next: 6}, api.SequenceStep{})
		p.Steps[6].Exits = []int{0}
		return p
	}
	// The steps 0 to 9, each of which leads to the next one, and to itself.
	chain := sized(0, 10)
	for i := range 10 {
		chain.Steps[i].Exits, chain.Steps[i].Home = []int{i, min(i+1, 9)}, i
		if i == 9 {
			chain.Steps[i].Exits = []int{9}
		}
	}
	for _, c := range []struct {
		plan  api.SequencePlan
		from  api.SequenceState
		to    int
		want  []int
		ticks int
	}{
		{examplePlan(), at(rest, 0), turbine, []int{start}, 31},
		{examplePlan(), at(rest, 3), turbine, []int{start}, 31},
		{examplePlan(), at(turbine, 3), rest, []int{stop}, 21},
		{examplePlan(), at(turbine, 0), rest, []int{stop}, 21},
		{examplePlan(), at(rest, 0), rest, nil, 0}, {examplePlan(), at(turbine, 0), turbine, nil, 0}, {examplePlan(), at(turbine, 3), turbine, nil, 0},
		{several(20, 8, 30), at(0, 0), 6, []int{2}, 9}, {several(8, 20, 30), at(0, 0), 6, []int{1}, 9}, {several(30, 20, 10), at(0, 0), 6, []int{4, 5}, 10}, {several(30, 20, 8), at(0, 0), 6, []int{3}, 9},
		{several(30, 9, 9), at(0, 0), 6, []int{2}, 10}, // as fast as 4 and 5, but with one command, and before 3
		{several(9, 9, 9), at(0, 0), 6, []int{1}, 10}, {several(10, 10, 10), at(0, 0), 6, []int{4, 5}, 10}, {several(30, 9, 9), at(6, 0), 4, []int{0, 4}, 2},
		{chain, at(0, 0), 9, []int{1, 2, 3, 4, 5, 6, 7, 8, 9}, 9}, {chain, at(7, 0), 9, []int{8, 9}, 2}, {chain, at(9, 0), 9, nil, 0},
		// Lost commands: the first one of those that may be given.
		{mixed(), at(0, 4), 1, []int{0, 3, 1}, 24}, {mixed(), at(0, 0), 1, []int{0, 1}, 33}, {mixed(), at(1, 0), 1, nil, 0},
	} {
		if l, n, e := sequence.FastestWay(c.plan, c.from, c.to); !slices.Equal(l, c.want) || n != c.ticks || e != api.OK {
			t.Error(c.from, c.to, l, n, e, c.want, c.ticks)
		}
	}
}

// tally returns a plan in which each command for the first look counts the signals down by 1, until at 0 it leads to the goal; the steps are 0, then steps that count down, those that look, and others. After counting down it enters the step behind.
func tally(signals, behind, goal int, others ...api.SequenceStep) api.SequencePlan {
	p := planOf(signals, 0, api.SequenceStep{Safe: true, Exits: []int{1 + signals}, Home: 1 + signals})
	for i := range signals {
		p.Steps = append(p.Steps, api.SequenceStep{Name: "down" + strconv.Itoa(i), Wait: 1, Time: 1, MakesOff: 1 << i, MakesOn: 1<<i - 1, Next: behind, Back: behind})
	}
	for i := range signals {
		back := 2 + signals + i
		if i == signals-1 {
			back = goal
		}
		p.Steps = append(p.Steps, api.SequenceStep{Name: "look" + strconv.Itoa(i), Wait: 2, Time: 1, On: 1 << i, Next: 1 + i, Back: back})
	}
	for i, s := range others {
		s.Name = "other" + strconv.Itoa(i)
		p.Steps = append(p.Steps, s)
	}
	return p
}

// P7.5 and P7.11: a way has at most 10 commands, also if one with more were faster.
func TestFastestWayOfManyCommands(t *testing.T) {
	ten := tally(4, 0, 9, api.SequenceStep{})
	if l, n, e := sequence.FastestWay(ten, at(0, 9), 9); !slices.Equal(l, slices.Repeat([]int{5}, 10)) || n != 50 || e != api.OK {
		t.Error(l, n, e)
	}
	if l, n, e := sequence.FastestWay(ten, at(0, 3), 9); !slices.Equal(l, slices.Repeat([]int{5}, 4)) || n != 20 || e != api.OK {
		t.Error(l, n, e)
	}
	for signals := 10; signals < 16; signals++ {
		if got := call(sequence.FastestWay(ten, at(0, signals), 9)); !failed(got, api.ErrNone) {
			t.Error(signals, got)
		}
	}
	// The step 7 asks for a second command, the step 8 is slow, but leads to the step 9 at once.
	slow := tally(3, 7, 9, api.SequenceStep{Exits: []int{0}}, api.SequenceStep{Wait: 10000, Time: 10000, Next: 9}, api.SequenceStep{})
	slow.Steps[0].Exits = []int{4, 8}
	if l, n, e := sequence.FastestWay(slow, at(0, 4), 9); !slices.Equal(l, []int{4, 0, 4, 0, 4, 0, 4, 0, 4}) || n != 29 || e != api.OK {
		t.Error(l, n, e)
	}
	if l, n, e := sequence.FastestWay(slow, at(0, 5), 9); !slices.Equal(l, []int{8}) || n != 10001 || e != api.OK {
		t.Error(l, n, e)
	}
}

// P7.5: ways that there are not, and limits.
func TestNoFastestWay(t *testing.T) {
	for _, c := range []struct {
		plan api.SequencePlan
		from api.SequenceState
		to   int
		want api.Errno
	}{
		{examplePlan(), at(start, 0), turbine, api.ErrState}, {examplePlan(), at(rest, 0), start, api.ErrState}, {examplePlan(), at(start, 0), start, api.ErrState}, {examplePlan(), at(stop, 3), brake, api.ErrState},
		{examplePlan(), at(rest, 0), -1, api.ErrMissing}, {examplePlan(), at(rest, 0), 5, api.ErrMissing}, {examplePlan(), at(rest, 0), math.MinInt, api.ErrMissing}, {examplePlan(), at(rest, 0), math.MaxInt, api.ErrMissing}, {examplePlan(), at(start, 0), 5, api.ErrMissing},
		{sized(0, 2), at(0, 0), 1, api.ErrNone}, {mixed(), at(1, 0), 0, api.ErrNone}, {mixed(), at(1, 2), 0, api.ErrNone},
	} {
		if got := call(sequence.FastestWay(c.plan, c.from, c.to)); !failed(got, c.want) {
			t.Error(c.from, c.to, got, c.want)
		}
	}
}

// P7.5 and P7.11: of all ways that random plans have the fastest one is found, and it is a run that ends in the step.
func TestFastestWaysAgainstModel(t *testing.T) {
	r := random(8)
	counts, long, slower := map[api.Errno]int{}, 0, 0
	for range 1000 {
		p := randomPlan(r, kind{3, 8, 2})
		if r.IntN(2) == 0 { // few different times, so that many ways are as fast
			for i := range p.Steps {
				p.Steps[i].Wait, p.Steps[i].Time = min(p.Steps[i].Wait, 2), min(p.Steps[i].Time, 1)
			}
		}
		s, to := randomState(r, p), r.IntN(len(p.Steps))
		l, n, e := sequence.FastestWay(p, s, to)
		if p.Steps[s.Step].Wait > 0 || p.Steps[to].Wait > 0 {
			if !failed(call(l, n, e), api.ErrState) {
				t.Fatal(p, s, to, l, n, e)
			}
			continue
		}
		want, ticks, error := modelFastest(p, s, to)
		if !slices.Equal(l, want) || n != ticks || e != error {
			t.Fatal(p, s, to, l, n, e, want, ticks, error)
		}
		counts[e]++
		if e != api.OK {
			continue
		}
		states, sum, e := sequence.RunOf(p, s, run(fine(), l...))
		if sum != n || e != api.OK || append([]api.SequenceState{s}, states...)[len(states)].Step != to {
			t.Fatal(p, s, to, l, n, states, sum, e)
		}
		if len(l) > 1 {
			long++
		}
		slower += checkNoFasterRun(t, r, p, s, to, n)
	}
	if counts[api.OK] < 50 || counts[api.ErrNone] < 50 || long < 10 || slower < 500 {
		t.Error(counts, long, slower)
	}
}

// checkNoFasterRun tries ways at random, and returns how many of them lead to the step.
func checkNoFasterRun(t *testing.T, r *rand.Rand, p api.SequencePlan, s api.SequenceState, to, least int) int {
	t.Helper()
	arrived := 0
	for range 50 {
		end, ticks := s, 0
		for range api.MaxSequenceCommands {
			exits := p.Steps[end.Step].Exits
			if len(exits) == 0 {
				break
			}
			l, n, e := sequence.RunOf(p, end, run(fine(), chosen(r, exits...)))
			if e != api.OK {
				break
			}
			end, ticks = l[len(l)-1], ticks+n
			if end.Step == to {
				arrived++
				if ticks < least {
					t.Fatal(p, s, to, ticks, least)
				}
			}
		}
	}
	return arrived
}
