package sequence_test

import (
	"math/rand/v2"
	"slices"
	"testing"

	"guidevane/api"
	"guidevane/sequence"
)

func hallOf(machines int, rules ...api.SequenceRule) api.SequenceHall {
	return api.SequenceHall{Machines: machines, Rules: rules}
}

func excludes(step, other int) api.SequenceRule {
	return api.SequenceRule{Step: step, Other: other, Kind: api.SequenceExcludes}
}

func requires(step, other int) api.SequenceRule {
	return api.SequenceRule{Step: step, Other: other, Kind: api.SequenceRequires}
}

// exampleHall is the hall of the examples.
func exampleHall() api.SequenceHall {
	return hallOf(2, excludes(2, 1), requires(3, 0))
}

type badHall struct {
	hall  api.SequenceHall
	index int
	want  api.Errno
}

// badHalls returns halls for each error of CheckHall, and for each order of two errors.
func badHalls() []badHall {
	var l []badHall
	bad := api.SequenceRule{Step: -1, Other: -1, Kind: -1}
	for _, n := range outside(1, 6) {
		l = append(l, badHall{hallOf(n, excludes(1, 2)), 0, api.ErrRange}, badHall{hallOf(n, slices.Repeat([]api.SequenceRule{bad}, 13)...), 0, api.ErrRange}, badHall{hallOf(n, bad), 0, api.ErrRange})
	}
	l = append(l, badHall{hallOf(2, slices.Repeat([]api.SequenceRule{excludes(1, 2)}, 13)...), 0, api.ErrLarge}, badHall{hallOf(2, slices.Repeat([]api.SequenceRule{bad}, 1000)...), 0, api.ErrLarge})
	for at := range 12 {
		add := func(want api.Errno, rule, later api.SequenceRule) {
			rules := slices.Repeat([]api.SequenceRule{requires(9, 0)}, 12)
			rules[11], rules[at] = later, rule
			l = append(l, badHall{hallOf(2, rules...), at, want})
		}
		for _, n := range outside(0, 9) {
			add(api.ErrMissing, excludes(n, 1), excludes(1, 1))
			add(api.ErrMissing, excludes(1, n), api.SequenceRule{Kind: -1})
			add(api.ErrMissing, api.SequenceRule{Step: n, Kind: -1}, bad)
			add(api.ErrMissing, api.SequenceRule{Other: n, Kind: 2}, bad)
		}
		for _, n := range outside(0, 1) {
			add(api.ErrKind, api.SequenceRule{Kind: n}, excludes(1, 1))
			add(api.ErrKind, api.SequenceRule{Step: 9, Other: 9, Kind: n}, bad)
		}
	}
	return l
}

// P7.6.
func TestCheckHall(t *testing.T) {
	for _, c := range badHalls() {
		if i, e := sequence.CheckHall(c.hall); i != c.index || e != c.want {
			t.Error(c, i, e)
		}
	}
	for _, h := range []api.SequenceHall{hallOf(1), hallOf(6), exampleHall(), hallOf(6, slices.Repeat([]api.SequenceRule{excludes(0, 9)}, 12)...), hallOf(1, requires(9, 9), excludes(9, 9), requires(0, 0))} {
		if i, e := sequence.CheckHall(h); i != 0 || e != api.OK {
			t.Error(h, i, e)
		}
	}
}

// P7.6 and example 8; edge case: with one machine rules that require another one forbid a step.
func TestBrokenIn(t *testing.T) {
	for _, c := range []struct {
		hall          api.SequenceHall
		steps         []int
		machine, rule int
		want          api.Errno
	}{
		{exampleHall(), []int{2, 1}, 0, 0, api.OK}, {exampleHall(), []int{1, 2}, 1, 0, api.OK}, {exampleHall(), []int{0, 2}, 0, 0, api.ErrNone}, {exampleHall(), []int{2, 2}, 0, 0, api.ErrNone}, {exampleHall(), []int{1, 1}, 0, 0, api.ErrNone},
		{exampleHall(), []int{3, 0}, 0, 0, api.ErrNone}, {exampleHall(), []int{0, 3}, 0, 0, api.ErrNone}, {exampleHall(), []int{1, 3}, 1, 1, api.OK}, {exampleHall(), []int{3, 1}, 0, 1, api.OK}, {exampleHall(), []int{3, 3}, 0, 1, api.OK}, {exampleHall(), []int{2, 3}, 1, 1, api.OK},
		{hallOf(1, requires(3, 3)), []int{3}, 0, 0, api.OK}, {hallOf(1, requires(3, 0)), []int{3}, 0, 0, api.OK}, {hallOf(1, requires(3, 0)), []int{0}, 0, 0, api.ErrNone}, {hallOf(1, excludes(3, 3)), []int{3}, 0, 0, api.ErrNone},
		{hallOf(2, excludes(3, 3)), []int{3, 3}, 0, 0, api.OK}, {hallOf(2, requires(3, 3)), []int{3, 3}, 0, 0, api.ErrNone}, {hallOf(2, requires(3, 3)), []int{0, 3}, 1, 0, api.OK},
		{hallOf(3, excludes(1, 2), excludes(1, 2), requires(5, 6)), []int{0, 5, 5}, 1, 2, api.OK}, {hallOf(3, requires(5, 6), excludes(2, 1)), []int{6, 2, 1}, 1, 1, api.OK}, {hallOf(3, requires(5, 6), excludes(2, 1)), []int{5, 2, 1}, 0, 0, api.OK},
		{hallOf(6, excludes(0, 9)), []int{9, 9, 9, 9, 9, 0}, 5, 0, api.OK}, {hallOf(6, requires(0, 9)), []int{0, 0, 0, 0, 0, 9}, 0, 0, api.ErrNone}, {hallOf(6), []int{0, 1, 2, 3, 4, 9}, 0, 0, api.ErrNone},
	} {
		want := api.SequenceBreak{Machine: c.machine, Rule: c.rule}
		if b, e := sequence.BrokenIn(c.hall, c.steps); b != want || e != c.want {
			t.Error(c, b, e)
		}
	}
}

// P7.6 and example 8.
func TestMayEnter(t *testing.T) {
	for _, c := range []struct {
		hall          api.SequenceHall
		steps         []int
		machine, step int
		rule          int
		want          api.Errno
	}{
		{exampleHall(), []int{0, 2}, 0, 1, 0, api.ErrRefused}, {exampleHall(), []int{0, 2}, 1, 1, 0, api.OK}, {exampleHall(), []int{0, 2}, 0, 2, 0, api.OK}, {exampleHall(), []int{0, 2}, 0, 3, 1, api.ErrRefused},
		{exampleHall(), []int{0, 3}, 0, 1, 1, api.ErrRefused}, {exampleHall(), []int{0, 3}, 0, 0, 0, api.OK}, {exampleHall(), []int{0, 0}, 1, 3, 0, api.OK}, {exampleHall(), []int{1, 0}, 1, 3, 1, api.ErrRefused},
		{exampleHall(), []int{2, 1}, 1, 0, 0, api.OK}, {exampleHall(), []int{2, 1}, 0, 0, 0, api.OK}, // a rule that was broken holds then
		{exampleHall(), []int{2, 1}, 1, 1, 0, api.ErrRefused}, // it stays, and the rule stays broken
		{hallOf(3, excludes(1, 2), requires(4, 5)), []int{4, 1, 0}, 2, 3, 1, api.ErrRefused}, {hallOf(3, excludes(1, 2), requires(4, 5)), []int{4, 1, 0}, 2, 2, 1, api.ErrRefused}, {hallOf(3, excludes(1, 2), requires(4, 5)), []int{1, 4, 0}, 2, 2, 0, api.ErrRefused}, {hallOf(3, excludes(1, 2), requires(4, 5)), []int{1, 4, 0}, 2, 5, 0, api.OK},
		{hallOf(1, requires(3, 0)), []int{0}, 0, 3, 0, api.ErrRefused}, {hallOf(6), []int{0, 1, 2, 3, 4, 9}, 5, 9, 0, api.OK},
	} {
		if i, e := sequence.MayEnter(c.hall, c.steps, api.SequenceEntry{Machine: c.machine, Step: c.step}); i != c.rule || e != c.want {
			t.Error(c, i, e)
		}
	}
}

// P7.6: errors of halls, steps and entries, in their order, all else being zero.
func TestBadHalls(t *testing.T) {
	good, entry := []int{0, 0}, api.SequenceEntry{Machine: 1, Step: 3}
	bad := api.SequenceEntry{Machine: -1, Step: -1}
	expect := func(want api.Errno, results ...[]any) {
		t.Helper()
		for i, got := range results {
			if !failed(got, want) {
				t.Error(i, got, want)
			}
		}
	}
	for _, c := range badHalls() {
		expect(c.want, call(sequence.BrokenIn(c.hall, good)), call(sequence.BrokenIn(c.hall, nil)), call(sequence.BrokenIn(c.hall, []int{-1, -1})), call(sequence.MayEnter(c.hall, good, entry)), call(sequence.MayEnter(c.hall, nil, bad)), call(sequence.MayEnter(c.hall, []int{-1}, bad)))
	}
	h := exampleHall()
	for _, steps := range [][]int{nil, {}, {0}, {0, 0, 0}, {-1}, {10, 10, 10}, make([]int, 1000)} {
		expect(api.ErrShape, call(sequence.BrokenIn(h, steps)), call(sequence.MayEnter(h, steps, entry)), call(sequence.MayEnter(h, steps, bad)))
	}
	for _, n := range outside(0, 9) {
		for _, steps := range [][]int{{n, 0}, {2, n}, {n, n}} {
			expect(api.ErrMissing, call(sequence.BrokenIn(h, steps)), call(sequence.MayEnter(h, steps, entry)), call(sequence.MayEnter(h, steps, bad)), call(sequence.MayEnter(h, steps, api.SequenceEntry{Machine: 1, Step: 1})))
		}
		expect(api.ErrMissing, call(sequence.MayEnter(h, good, api.SequenceEntry{Machine: 1, Step: n})), call(sequence.MayEnter(h, []int{2, 1}, api.SequenceEntry{Step: n})))
	}
	for _, n := range outside(0, 1) {
		expect(api.ErrMissing, call(sequence.MayEnter(h, good, api.SequenceEntry{Machine: n, Step: 1})), call(sequence.MayEnter(h, []int{2, 1}, api.SequenceEntry{Machine: n, Step: 9})))
	}
}

func randomHall(r *rand.Rand) api.SequenceHall {
	h := hallOf(between(r, 1, 6))
	for range r.IntN(13) {
		h.Rules = append(h.Rules, api.SequenceRule{Step: r.IntN(10), Other: r.IntN(chosen(r, 2, 10)), Kind: r.IntN(2)})
	}
	return h
}

// P7.6: random halls. P7.13: if all rules hold, and a machine enters a step that it may enter, all rules hold again.
func TestHallsAgainstModel(t *testing.T) {
	r := random(9)
	broken, refused, entered := 0, 0, 0
	for range 50000 {
		h := randomHall(r)
		var steps []int
		for range h.Machines {
			steps = append(steps, r.IntN(chosen(r, 3, 10)))
		}
		want, error := modelBroken(h, steps)
		if b, e := sequence.BrokenIn(h, steps); b != want || e != error {
			t.Fatal(h, steps, b, e)
		}
		x := api.SequenceEntry{Machine: r.IntN(h.Machines), Step: r.IntN(10)}
		after := slices.Clone(steps)
		after[x.Machine] = x.Step
		i, e := sequence.MayEnter(h, steps, x)
		if then, error := modelBroken(h, after); error == api.OK && (i != then.Rule || e != api.ErrRefused) || error != api.OK && (i != 0 || e != api.OK) {
			t.Fatal(h, steps, x, i, e)
		}
		switch {
		case error == api.OK:
			broken++
		case e == api.ErrRefused:
			refused++
		default:
			entered++
			if _, e := sequence.BrokenIn(h, after); e != api.ErrNone {
				t.Fatal(h, steps, x, e)
			}
		}
	}
	if broken < 1000 || refused < 1000 || entered < 1000 {
		t.Error(broken, refused, entered)
	}
}

// P7.5 and example 7: a signal is in the vote if it is in at least two of the sets.
func TestVoted(t *testing.T) {
	for a := range 32 {
		for b := range 32 {
			for c := range 32 {
				want := 0
				for i, weight := range []int{1, 2, 4, 8, 16} {
					votes := 0
					for _, set := range []int{a, b, c} {
						if inSet(set, i) {
							votes++
						}
					}
					if votes >= 2 {
						want += weight
					}
				}
				if n, e := sequence.Voted([3]int{a, b, c}); n != want || e != api.OK {
					t.Error(a, b, c, n, e)
				}
			}
		}
	}
	if n, e := sequence.Voted([3]int{1, 3, 2}); n != 3 || e != api.OK {
		t.Error(n, e)
	}
	for _, n := range outside(0, 31) {
		for i := range 3 {
			l := [3]int{31, 31, 31}
			l[i] = n
			if n, e := sequence.Voted(l); n != 0 || e != api.ErrRange {
				t.Error(l, n, e)
			}
		}
	}
}

// P7.12: if at most one of three sets is wrong, the vote is right.
func TestVotesAreRight(t *testing.T) {
	for right := range 32 {
		for wrong := range 32 {
			for i := range 3 {
				l := [3]int{right, right, right}
				l[i] = wrong
				if n, e := sequence.Voted(l); n != right || e != api.OK {
					t.Error(l, n, e)
				}
			}
		}
	}
}
