package sequence

import "guidevane/api"

// place is a state with a fault.
type place struct {
	state api.SequenceState
	fault api.SequenceFault
}

// proof is a plan that was checked, with the ranks that were given so far.
type proof struct {
	plan
	ranks map[place]int
}

// CheckRanks returns the error of ranks that shall be a proof, with the index of the rank.
func CheckRanks(p api.SequencePlan, l []api.SequenceRank) (int, api.Errno) {
	checked, e := planOf(p)
	if e := first(e, checkMost(l, api.MaxSequenceRanks)); e != api.OK {
		return 0, e
	}
	x := proof{checked, map[place]int{}}
	if i, e := firstItem(l, x.add); e != api.OK {
		return i, e
	}
	if !x.has(x.begin(), noFault()) {
		return 0, api.ErrGap
	}
	return firstItem(l, x.check)
}

// add adds a rank, and returns its error by itself.
func (x proof) add(r api.SequenceRank) api.Errno {
	isDouble := x.has(r.State, r.Fault)
	x.ranks[place{r.State, r.Fault}] = r.Rank
	return first(
		x.checkState(r.State),
		x.checkFault(r.Fault),
		checkWithin(r.Rank, 0, api.MaxSequenceRanks),
		unless(!isDouble, api.ErrDouble))
}

// has returns whether a state with a fault has a rank.
func (x proof) has(s api.SequenceState, f api.SequenceFault) bool {
	_, ok := x.ranks[place{s, f}]
	return ok
}

// check returns the error of a rank among all others.
func (x proof) check(r api.SequenceRank) api.Errno {
	m := machine{x.plan, r.Fault}
	isHome := m.isHome(r.State)
	return first(
		unless(x.isClosedAt(r.State, m), api.ErrGap),
		unless(isHome == (r.Rank == 0), api.ErrForm),
		unless(isHome || x.sinksFrom(r, m), api.ErrProof))
}

// isClosedAt returns whether all those have ranks that must have one since this state with its fault has one.
func (x proof) isClosedAt(s api.SequenceState, m machine) bool {
	for next := range m.after(s) {
		if !x.has(next, m.fault) {
			return false
		}
	}
	if m.fault != noFault() {
		return true
	}
	for _, f := range x.faults() {
		if !x.has(s, f) {
			return false
		}
	}
	return true
}

// sinksFrom returns whether there is a turn home, and the state after it has a lesser rank.
func (x proof) sinksFrom(r api.SequenceRank, m machine) bool {
	next, _, ok := m.homeTurn(r.State)
	return ok && x.ranks[place{next, m.fault}] < r.Rank
}
