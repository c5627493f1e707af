package sequence_test

import (
	"math/rand/v2"
	"slices"
	"testing"

	"guidevane/api"
	"guidevane/sequence"
)

// rank is a rank of a state without a fault.
func rank(step, signals, n int) api.SequenceRank {
	return api.SequenceRank{State: at(step, signals), Fault: fine(), Rank: n}
}

// P7.4 and example 3.
func TestReachedIn(t *testing.T) {
	// With the fault the step 2 is left for the step 3, and from there, without it, nothing would lead to the step 4.
	faulty := planOf(1, 1,
		api.SequenceStep{Safe: true, Exits: []int{2}, Home: 2},
		api.SequenceStep{Exits: []int{0}},
		api.SequenceStep{Needs: 1, Trip: 3},
		api.SequenceStep{Wait: 2, Time: 1, Off: 1, Next: 4},
		api.SequenceStep{})
	for _, c := range []struct {
		plan  api.SequencePlan
		fault api.SequenceFault
		want  []api.SequenceState
	}{
		{examplePlan(), fine(), path(0, 0, 1, 0, 2, 3, 3, 3)},
		{examplePlan(), seenOn(1), path(0, 0, 1, 0, 2, 3, 3, 3, 4, 0)},
		{examplePlan(), seenOff(1), path(0, 0, 1, 0, 2, 3, 3, 3)},
		{edited(func(p *api.SequencePlan) { p.Start = 3 }), fine(), path(0, 0, 0, 3, 1, 0, 1, 3, 2, 3, 3, 3)},
		{sized(5, 10), fine(), path(0, 0)},
		{sized(5, 10), seenOn(4), path(0, 0)},
		{planOf(5, 21, api.SequenceStep{Safe: true}), seenOn(4), path(0, 21)},
		{planOf(1, 0, api.SequenceStep{Safe: true, Needs: 1, Trip: 1}, api.SequenceStep{Exits: []int{0}}), fine(), path(0, 0, 1, 0)},
		{planOf(0, 0, api.SequenceStep{Safe: true, Exits: []int{1, 2, 3}, Home: 3}, api.SequenceStep{}, api.SequenceStep{}, api.SequenceStep{}, api.SequenceStep{}), fine(), path(0, 0, 1, 0, 2, 0, 3, 0)},
		{faulty, fine(), path(0, 1, 2, 1)}, {faulty, seenOn(0), path(0, 1, 2, 1)}, {faulty, seenOff(0), path(0, 1, 2, 1, 3, 1, 4, 1)},
	} {
		if l, e := sequence.ReachedIn(c.plan, c.fault); !slices.Equal(l, c.want) || e != api.OK {
			t.Error(c.plan, c.fault, l, e)
		}
		if l := modelReached(c.plan, c.fault); !slices.Equal(l, c.want) {
			t.Error(c.plan, c.fault, l)
		}
	}
	l, e := sequence.ReachedIn(counter(), fine())
	if len(l) != 64 || e != api.OK || l[0] != at(0, 0) || l[1] != at(0, 31) || !slices.Contains(l, at(9, 0)) {
		t.Error(len(l), l, e)
	}
}

// P7.4: reached states of random plans. P7.10: they contain all states after one turn.
func TestReachedAgainstModel(t *testing.T) {
	r := random(4)
	more := 0
	for range 500 {
		p := randomPlan(r, kind{4, 10, 5})
		before, _ := sequence.ReachedIn(p, fine())
		for _, f := range modelFaults(p) {
			l, e := sequence.ReachedIn(p, f)
			if want := modelReached(p, f); !slices.Equal(l, want) || e != api.OK {
				t.Fatal(p, f, l, want, e)
			}
			if len(l) > len(before) {
				more++
			}
			for _, s := range l {
				for _, command := range append([]int{-1}, p.Steps[s.Step].Exits...) {
					if next, _, e := sequence.TurnOf(p, s, api.SequenceTurn{Fault: f, Command: command}); !slices.Contains(l, next) || e != api.OK {
						t.Fatal(p, f, s, command, next, e)
					}
				}
			}
		}
	}
	if more < 80 {
		t.Error(more)
	}
}

// P7.4, example 4 and example 6.
func TestTrapOf(t *testing.T) {
	for _, c := range []struct {
		plan  api.SequencePlan
		state api.SequenceState
		fault api.SequenceFault
	}{
		{trapPlan(), at(start, 0), seenOn(1)},
		{mixed(), at(1, 1), fine()},
		{planOf(1, 1, api.SequenceStep{Safe: true, Needs: 1}), at(0, 1), seenOff(0)},
		{planOf(1, 0, api.SequenceStep{Safe: true, Needs: 1}), at(0, 0), fine()},
		{planOf(0, 0, api.SequenceStep{Safe: true, Exits: []int{1, 2}, Home: 1}, api.SequenceStep{Exits: []int{2}, Home: 2}, api.SequenceStep{}), at(1, 0), fine()},
		{planOf(0, 0, api.SequenceStep{Safe: true, Exits: []int{2}, Home: 2}, api.SequenceStep{}, api.SequenceStep{Exits: []int{2}, Home: 2}), at(2, 0), fine()},
	} {
		if got, e := sequence.TrapOf(c.plan); got != (api.SequenceRank{State: c.state, Fault: c.fault}) || e != api.OK {
			t.Error(c, got, e)
		}
		if got := call(sequence.RanksOf(c.plan)); !failed(got, api.ErrClash) {
			t.Error(c, got)
		}
	}
	for _, p := range []api.SequencePlan{examplePlan(), sized(5, 10), planOf(0, 0, api.SequenceStep{Safe: true}, api.SequenceStep{})} {
		if got := call(sequence.TrapOf(p)); !failed(got, api.ErrNone) {
			t.Error(p, got)
		}
	}
}

// P7.4 and example 4.
func TestRanksOf(t *testing.T) {
	l, e := sequence.RanksOf(examplePlan())
	want := []api.SequenceRank{rank(0, 0, 0), rank(1, 0, 3), rank(2, 3, 2), rank(3, 3, 1)}
	add := func(f api.SequenceFault, ranks ...api.SequenceRank) {
		for _, r := range ranks {
			r.Fault = f
			want = append(want, r)
		}
	}
	add(seenOff(0), rank(0, 0, 0), rank(1, 0, 2), rank(2, 3, 2), rank(3, 3, 1))
	add(seenOn(0), rank(0, 0, 0), rank(1, 0, 3), rank(2, 3, 2), rank(3, 3, 1))
	add(seenOff(1), rank(0, 0, 0), rank(1, 0, 2), rank(2, 3, 2), rank(3, 3, 1))
	add(seenOn(1), rank(0, 0, 0), rank(1, 0, 4), rank(2, 3, 3), rank(3, 3, 2), rank(4, 0, 1))
	if !slices.Equal(l, want) || e != api.OK {
		t.Error(l, e)
	}
	if l, e := sequence.RanksOf(sized(0, 10)); !slices.Equal(l, []api.SequenceRank{rank(0, 0, 0)}) || e != api.OK {
		t.Error(l, e)
	}
}

// P7.4, P7.8 and P7.9: traps, ranks and the longest time home of random plans; ranks are accepted, and exactly one of traps and ranks has a result.
func TestRanksAgainstModel(t *testing.T) {
	r := random(5)
	traps, ranked, longest := 0, 0, 0
	for range 1500 {
		p := randomPlan(r, kind{4, 10, 5})
		ranks, trap, ticks := modelRanks(p)
		got, trapError := sequence.TrapOf(p)
		l, ranksError := sequence.RanksOf(p)
		n, longestError := sequence.LongestHome(p)
		if trap != nil {
			traps++
			if got != *trap || trapError != api.OK || !failed(call(l, ranksError), api.ErrClash) || !failed(call(n, longestError), api.ErrClash) {
				t.Fatal(p, got, trapError, l, ranksError, n, longestError)
			}
			continue
		}
		ranked++
		longest = max(longest, ticks)
		if !failed(call(got, trapError), api.ErrNone) || !slices.Equal(l, ranks) || ranksError != api.OK || n != ticks || longestError != api.OK {
			t.Fatal(p, got, trapError, l, ranksError, n, longestError)
		}
		if i, e := sequence.CheckRanks(p, l); i != 0 || e != api.OK {
			t.Fatal(p, l, i, e)
		}
	}
	if traps < 300 || ranked < 300 || longest < 1000 {
		t.Error(traps, ranked, longest)
	}
}

// exampleRanks is a proof for the plan of the examples.
func exampleRanks(t *testing.T) []api.SequenceRank {
	t.Helper()
	l, e := sequence.RanksOf(examplePlan())
	if e != api.OK || len(l) != 21 {
		t.Fatal(l, e)
	}
	return l
}

// all returns all states with all faults, each with the rank n.
func all(p api.SequencePlan, n int) []api.SequenceRank {
	var l []api.SequenceRank
	for _, f := range modelFaults(p) {
		for _, s := range allStates(p) {
			l = append(l, api.SequenceRank{State: s, Fault: f, Rank: n})
		}
	}
	return l
}

// P7.4: what is a proof.
func TestCheckRanks(t *testing.T) {
	p, l := examplePlan(), exampleRanks(t)
	good := map[string][]api.SequenceRank{"the ranks": l}
	last := slices.Clone(l)
	slices.Reverse(last)
	good["in another order"] = last
	greater := slices.Clone(l)
	for i := range greater {
		greater[i].Rank *= 1000
	}
	good["greater ranks"] = greater
	uneven := slices.Clone(l)
	uneven[1].Rank, uneven[2].Rank, uneven[20].Rank, uneven[19].Rank, uneven[18].Rank, uneven[17].Rank = 4000, 3999, 7, 20, 21, 40
	good["uneven ranks"] = uneven
	more := slices.Clone(l)
	for _, f := range modelFaults(p) {
		more = append(more, api.SequenceRank{State: at(rest, 3), Fault: f}, api.SequenceRank{State: at(start, 3), Fault: f, Rank: 4})
	}
	good["states that are not reached"] = more
	good["a state that is not reached, with one fault"] = append(slices.Clone(l), api.SequenceRank{State: at(brake, 3), Fault: seenOn(0), Rank: 9})
	for name, l := range good {
		if i, e := sequence.CheckRanks(p, l); i != 0 || e != api.OK {
			t.Error(name, i, e)
		}
	}
	if i, e := sequence.CheckRanks(sized(5, 10), all(sized(5, 10), 0)); i != 0 || e != api.OK {
		t.Error(i, e)
	}
}

// P7.4: ranks of which one is wrong.
func TestCheckRanksErrors(t *testing.T) {
	p, l := examplePlan(), exampleRanks(t)
	expect := func(i int, want api.Errno, l []api.SequenceRank) {
		t.Helper()
		if got, e := sequence.CheckRanks(p, l); got != i || e != want {
			t.Error(got, e, "want", i, want, l)
		}
	}
	with := func(change func(l []api.SequenceRank)) []api.SequenceRank {
		l := slices.Clone(l)
		change(l)
		return l
	}
	without := func(i int) []api.SequenceRank { return slices.Delete(slices.Clone(l), i, i+1) }
	for i := range l {
		for _, c := range badStates() {
			expect(i, c.want, with(func(l []api.SequenceRank) { l[i].State = c.state }))
			expect(i, c.want, with(func(l []api.SequenceRank) { l[i].State, l[i].Fault, l[i].Rank = c.state, seenOn(-1), -1 }))
		}
		for _, c := range badFaults() {
			expect(i, c.want, with(func(l []api.SequenceRank) { l[i].Fault = c.fault }))
			expect(i, c.want, with(func(l []api.SequenceRank) { l[i].Fault, l[i].Rank = c.fault, -1 }))
		}
		for _, n := range outside(0, 4000) {
			expect(i, api.ErrRange, with(func(l []api.SequenceRank) { l[i].Rank = n }))
			if i > 0 {
				expect(i, api.ErrRange, with(func(l []api.SequenceRank) { l[i] = l[0]; l[i].Rank = n })) // also twice
				expect(i-1, api.ErrRange, with(func(l []api.SequenceRank) { l[i-1].Rank, l[i].State = n, at(9, 0) }))
			}
		}
		expect(len(l), api.ErrDouble, append(slices.Clone(l), l[i]))
		expect(len(l), api.ErrDouble, append(slices.Clone(l), api.SequenceRank{State: l[i].State, Fault: l[i].Fault, Rank: 4000}))
		expect(1, api.ErrDouble, append([]api.SequenceRank{l[i], l[i]}, l[1:]...)) // the first state may lack a rank, too
	}
	expect(0, api.ErrGap, nil)
	expect(0, api.ErrGap, without(0))
	expect(0, api.ErrGap, with(func(l []api.SequenceRank) { l[0].State.Signals = 1 }))
	expect(0, api.ErrGap, with(func(l []api.SequenceRank) { l[0].Fault = seenOn(0); l[8].Fault = fine() })[:8])
	expect(0, api.ErrGap, without(1))                  // the state after the command of the state 0
	expect(1, api.ErrGap, without(2))                  // the state after the turn of the state 1
	expect(2, api.ErrGap, without(3))                  // the state after the command of the state 2
	expect(0, api.ErrGap, without(4))                  // the same state with a fault
	expect(0, api.ErrGap, without(16))                 // the same state with the last fault
	expect(1, api.ErrGap, without(9))                  // the same state with a fault in between
	expect(19, api.ErrGap, without(20))                // the state after the turn with a fault, which is not reached without it
	expect(0, api.ErrGap, l[:4])                       // no faults
	expect(0, api.ErrGap, []api.SequenceRank{l[0]})    // the first state alone
	expect(0, api.ErrGap, slices.Clone(l[:len(l)-16])) // only some faults
	for i, r := range l {
		if r.Rank == 0 {
			expect(i, api.ErrForm, with(func(l []api.SequenceRank) { l[i].Rank = 1 }))
			expect(i, api.ErrForm, with(func(l []api.SequenceRank) { l[i].Rank = 4000 }))
			continue
		}
		expect(i, api.ErrForm, with(func(l []api.SequenceRank) { l[i].Rank = 0 }))
		if r.Rank > 1 {
			expect(i, api.ErrProof, with(func(l []api.SequenceRank) { l[i].Rank-- }))
			expect(i, api.ErrProof, with(func(l []api.SequenceRank) { l[i].Rank = 1 }))
		}
	}
	// For each rank a gap comes before a wrong rank, but an earlier rank before a later one.
	expect(0, api.ErrGap, with(func(l []api.SequenceRank) { l[0].Rank, l[1].State.Signals = 1, 1 }))
	expect(1, api.ErrGap, with(func(l []api.SequenceRank) { l[1].Rank, l[2].State.Signals = 0, 0 }))
	expect(0, api.ErrForm, with(func(l []api.SequenceRank) { l[0].Rank, l[2].State.Signals = 1, 0 }))
	expect(1, api.ErrProof, with(func(l []api.SequenceRank) { l[1].Rank, l[3].Rank = 2, 0 }))
	expect(2, api.ErrProof, with(func(l []api.SequenceRank) { l[3].Rank = 2 }))
}

// P7.4: too many ranks, and a state without a turn home.
func TestCheckRanksLimits(t *testing.T) {
	p := sized(5, 10)
	for _, n := range []int{4001, 5000, 100000} {
		if i, e := sequence.CheckRanks(p, make([]api.SequenceRank, n)); i != 0 || e != api.ErrLarge {
			t.Error(n, i, e)
		}
		if i, e := sequence.CheckRanks(p, slices.Repeat([]api.SequenceRank{{Rank: -1}}, n)); i != 0 || e != api.ErrLarge {
			t.Error(n, i, e)
		}
	}
	if i, e := sequence.CheckRanks(p, append(all(p, 0), make([]api.SequenceRank, 4000-11*320)...)); i != 3520 || e != api.ErrDouble {
		t.Error(i, e)
	}
	stuck := planOf(0, 0, api.SequenceStep{Safe: true, Exits: []int{1}, Home: 1}, api.SequenceStep{})
	for _, n := range []int{1, 2, 4000} {
		if i, e := sequence.CheckRanks(stuck, []api.SequenceRank{rank(0, 0, 0), rank(1, 0, n)}); i != 1 || e != api.ErrProof {
			t.Error(n, i, e)
		}
	}
	if i, e := sequence.CheckRanks(stuck, []api.SequenceRank{rank(0, 0, 0), rank(1, 0, 0)}); i != 1 || e != api.ErrForm {
		t.Error(i, e)
	}
	// Rounds of steps cannot have ranks that sink.
	round := planOf(0, 0, api.SequenceStep{Safe: true, Exits: []int{1}, Home: 1}, api.SequenceStep{Wait: 1, Time: 1, Next: 2}, api.SequenceStep{Exits: []int{0, 1}, Home: 1})
	for _, c := range [][3]int{{5, 4, 2}, {5, 5, 1}, {4, 5, 1}, {1, 4000, 1}} {
		if i, e := sequence.CheckRanks(round, []api.SequenceRank{rank(0, 0, 0), rank(1, 0, c[0]), rank(2, 0, c[1])}); i != c[2] || e != api.ErrProof {
			t.Error(c, i, e)
		}
	}
}

// spoiled returns ranks with a few changes.
func spoiled(r *rand.Rand, p api.SequencePlan, l []api.SequenceRank) []api.SequenceRank {
	l = slices.Clone(l)
	for range r.IntN(3) {
		if len(l) == 0 {
			break
		}
		i := r.IntN(len(l))
		switch r.IntN(6) {
		case 0:
			l[i].Rank = r.IntN(6)
		case 1:
			l = append(l[:i:i], l[i+1:]...)
		case 2:
			l[i].State.Step = r.IntN(len(p.Steps))
		case 3:
			l[i].Fault = randomFault(r, p)
		case 4:
			l[i].Rank++
		case 5:
			l = append(l, l[i])
		}
	}
	return l
}

// P7.4: ranks that are proofs, or nearly. P7.8: if they are accepted, it gets home from every reached state with every fault, after at most as many turns as its rank.
func TestCheckRanksAgainstModel(t *testing.T) {
	r := random(6)
	counts := map[api.Errno]int{}
	for counts[api.OK] < 1000 {
		p := randomPlan(r, kind{2, 6, 3})
		l, e := sequence.RanksOf(p)
		switch {
		case e != api.OK:
			// There is a trap: no ranks are a proof, also if none is missing.
			l = all(p, 0)
			for i := range l {
				j, ok := modelHomes(p, l[i].Fault)[l[i].State]
				l[i].Rank = j.turns
				if !ok {
					l[i].Rank = between(r, 1, 9)
				}
			}
		case r.IntN(2) == 0:
			for i := range l {
				l[i].Rank *= 3
			}
		}
		l = spoiled(r, p, l)
		want, error := modelCheckRanks(p, l)
		i, e := sequence.CheckRanks(p, l)
		if i != want || e != error {
			t.Fatal(p, l, i, e, want, error)
		}
		counts[e]++
		if e == api.OK {
			checkAllGetHome(t, p, l)
		}
	}
	for _, e := range []api.Errno{api.ErrDouble, api.ErrGap, api.ErrForm, api.ErrProof} {
		if counts[e] < 200 {
			t.Error(counts)
		}
	}
}

func checkAllGetHome(t *testing.T, p api.SequencePlan, l []api.SequenceRank) {
	t.Helper()
	for _, f := range modelFaults(p) {
		states, _ := sequence.ReachedIn(p, f)
		for _, s := range states {
			turns, _, e := sequence.HomeOf(p, s, f)
			if e != api.OK || len(turns) > modelRankOf(l, s, f) {
				t.Fatal(p, s, f, turns, e)
			}
		}
	}
}
