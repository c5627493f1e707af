package sequence_test

import (
	"math"
	"testing"

	"guidevane/api"
	"guidevane/sequence"
)

// mixed is a plan whose steps have needs, and trips that tell where they lead. Its signals are x0, x1 and x2.
func mixed() api.SequencePlan {
	return planOf(3, 1,
		api.SequenceStep{Safe: true, Needs: 1, Trip: 4, Exits: []int{0, 2, 3}, Home: 3},
		api.SequenceStep{Needs: 2, Trip: 1},
		api.SequenceStep{Wait: 50, Time: 7, Needs: 1, Trip: 5, MakesOn: 2, MakesOff: 4, On: 6, Off: 1, Next: 3, Back: 0},
		api.SequenceStep{Exits: []int{0, 1}, Home: 1},
		api.SequenceStep{Wait: 9, Time: 4, Needs: 2, Trip: 5, MakesOff: 3, Next: 0, Back: 0},
		api.SequenceStep{Wait: 30, Time: 20, MakesOn: 1, On: 4, Off: 2, Next: 0, Back: 3})
}

// P7.2, edge case: a fault that shows what is true changes nothing.
func TestSeenIn(t *testing.T) {
	p := sized(3, 2)
	for _, c := range []struct {
		signals int
		fault   api.SequenceFault
		want    int
	}{
		{5, fine(), 5}, {0, fine(), 0}, {7, fine(), 7},
		{5, seenOn(0), 5}, {5, seenOn(1), 7}, {5, seenOn(2), 5}, {0, seenOn(0), 1}, {0, seenOn(1), 2}, {0, seenOn(2), 4},
		{5, seenOff(0), 4}, {5, seenOff(1), 5}, {5, seenOff(2), 1}, {7, seenOff(0), 6}, {7, seenOff(1), 5}, {7, seenOff(2), 3},
	} {
		for step := range 2 {
			if n, e := sequence.SeenIn(p, at(step, c.signals), c.fault); n != c.want || e != api.OK {
				t.Error(c, n, e)
			}
		}
	}
	if n, e := sequence.SeenIn(sized(5, 10), at(9, 15), seenOn(4)); n != 31 || e != api.OK {
		t.Error(n, e)
	}
}

type turnCase struct {
	from    api.SequenceState
	fault   api.SequenceFault
	command int
	to      api.SequenceState
	ticks   int
}

func checkTurns(t *testing.T, p api.SequencePlan, l []turnCase) {
	t.Helper()
	for _, c := range l {
		if s, n, e := sequence.TurnOf(p, c.from, api.SequenceTurn{Fault: c.fault, Command: c.command}); s != c.to || n != c.ticks || e != api.OK {
			t.Error(c, s, n, e)
		}
	}
}

// P7.2 and example 1.
func TestTurnOf(t *testing.T) {
	checkTurns(t, examplePlan(), []turnCase{
		{at(rest, 0), fine(), start, at(start, 0), 1}, {at(rest, 0), fine(), -1, at(rest, 0), 1}, {at(rest, 3), fine(), start, at(start, 3), 1}, {at(rest, 2), fine(), -1, at(rest, 2), 1},
		{at(start, 0), fine(), -1, at(turbine, 3), 30}, {at(start, 3), fine(), -1, at(turbine, 3), 30}, {at(start, 0), seenOff(1), -1, at(stop, 3), 60}, {at(start, 0), seenOff(0), -1, at(stop, 3), 60}, {at(start, 0), seenOn(0), -1, at(turbine, 3), 30},
		{at(turbine, 3), fine(), stop, at(stop, 3), 1}, {at(turbine, 3), fine(), -1, at(turbine, 3), 1}, {at(turbine, 1), fine(), -1, at(stop, 1), 1}, {at(turbine, 1), seenOn(1), -1, at(turbine, 1), 1}, {at(turbine, 3), seenOff(1), -1, at(stop, 3), 1},
		{at(stop, 3), fine(), -1, at(rest, 0), 20}, {at(stop, 3), seenOn(1), -1, at(brake, 0), 40}, {at(stop, 3), seenOn(0), -1, at(rest, 0), 20}, {at(stop, 0), seenOff(1), -1, at(rest, 0), 20},
		{at(brake, 0), fine(), -1, at(rest, 0), 50}, {at(brake, 3), seenOn(0), -1, at(rest, 0), 90}, {at(brake, 1), seenOn(1), -1, at(rest, 0), 50},
	})
}

// P7.2, edge cases: needs that are missing at once, also of a safe step, a trip to the step itself, a command that is lost, needs that come or go while a step moves, signals that are awaited and not made.
func TestTurnsWithNeeds(t *testing.T) {
	checkTurns(t, mixed(), []turnCase{
		// A steady step with its needs, and without.
		{at(0, 1), fine(), -1, at(0, 1), 1}, {at(0, 1), fine(), 0, at(0, 1), 1}, {at(0, 7), fine(), 2, at(2, 7), 1}, {at(0, 1), fine(), 3, at(3, 1), 1},
		{at(0, 0), fine(), -1, at(4, 0), 1}, {at(0, 6), fine(), -1, at(4, 6), 1}, {at(0, 0), fine(), 3, at(4, 0), 1}, {at(0, 7), seenOff(0), 2, at(4, 7), 1}, {at(0, 6), seenOn(0), 2, at(2, 6), 1},
		{at(1, 0), fine(), -1, at(1, 0), 1}, {at(1, 2), fine(), -1, at(1, 2), 1}, {at(1, 2), seenOff(1), -1, at(1, 2), 1},
		{at(3, 5), fine(), 0, at(0, 5), 1}, {at(3, 5), fine(), 1, at(1, 5), 1},
		// A moving step without its needs.
		{at(2, 0), fine(), -1, at(5, 0), 1}, {at(2, 6), fine(), -1, at(5, 6), 1}, {at(2, 7), seenOff(0), -1, at(5, 7), 1},
		// Its signal x0 must be on, and is awaited as off: never done.
		{at(2, 1), fine(), -1, at(0, 3), 50}, {at(2, 5), fine(), -1, at(0, 3), 50}, {at(2, 7), seenOn(2), -1, at(0, 3), 50}, {at(2, 0), seenOn(0), -1, at(0, 2), 50},
		// The needs of a step go while it moves: the signals have changed, and its Time has passed.
		{at(4, 2), fine(), -1, at(5, 0), 4}, {at(4, 7), fine(), -1, at(5, 4), 4}, {at(4, 7), seenOn(0), -1, at(5, 4), 4}, {at(4, 7), seenOn(1), -1, at(0, 4), 4}, {at(4, 0), seenOn(1), -1, at(0, 0), 4}, {at(4, 5), fine(), -1, at(5, 5), 1}, {at(4, 7), seenOff(1), -1, at(5, 7), 1},
		// What is awaited was on before, or off, or is seen so.
		{at(5, 4), fine(), -1, at(0, 5), 20}, {at(5, 5), fine(), -1, at(0, 5), 20}, {at(5, 0), fine(), -1, at(3, 1), 30}, {at(5, 6), fine(), -1, at(3, 7), 30}, {at(5, 6), seenOff(1), -1, at(0, 7), 20}, {at(5, 0), seenOn(2), -1, at(0, 1), 20}, {at(5, 4), seenOff(2), -1, at(3, 5), 30}, {at(5, 4), seenOn(1), -1, at(3, 5), 30}, {at(5, 4), seenOff(0), -1, at(0, 5), 20},
	})
	// A moving step whose needs are off is left at once, though it makes them come on; with its needs, and with what it awaits, it is done.
	p := planOf(1, 0, api.SequenceStep{Safe: true}, api.SequenceStep{Wait: 5, Time: 3, Needs: 1, MakesOn: 1, On: 1, Next: 2, Back: 2, Trip: 1}, api.SequenceStep{})
	checkTurns(t, p, []turnCase{{at(1, 0), fine(), -1, at(1, 0), 1}, {at(1, 1), fine(), -1, at(2, 1), 3}, {at(1, 0), seenOn(0), -1, at(2, 1), 3}, {at(1, 1), seenOff(0), -1, at(1, 1), 1}})
}

// P7.2: commands that are refused.
func TestRefusedTurns(t *testing.T) {
	for _, c := range []struct {
		plan     api.SequencePlan
		from     api.SequenceState
		commands []int
	}{
		{examplePlan(), at(rest, 0), []int{0, 2, 3, 4, 5, -2, math.MinInt, math.MaxInt}},
		{examplePlan(), at(turbine, 3), []int{0, 1, 2, 4, 5, -2}},
		{examplePlan(), at(turbine, 0), []int{0, 1, 2, 4, 5, -2}}, // its needs are missing
		{examplePlan(), at(start, 0), []int{0, 1, 2, 3, 4, 5, -2, math.MinInt, math.MaxInt}},
		{examplePlan(), at(stop, 3), []int{0, 1, 2, 3, 4, 5, -2}},
		{mixed(), at(4, 0), []int{0, 1, 2, 3, 4, 5}}, // its needs are missing, and it is moving
		{mixed(), at(1, 2), []int{0, 1, 2}},
		{mixed(), at(0, 0), []int{1, 4, 5, 6}},
	} {
		for _, command := range c.commands {
			if got := call(sequence.TurnOf(c.plan, c.from, api.SequenceTurn{Fault: fine(), Command: command})); !failed(got, api.ErrRefused) {
				t.Error(c.from, command, got)
			}
		}
	}
}

// P7.2.
func TestHomeTurn(t *testing.T) {
	for _, c := range []struct {
		plan  api.SequencePlan
		from  api.SequenceState
		fault api.SequenceFault
		to    api.SequenceState
		ticks int
	}{
		{examplePlan(), at(rest, 0), fine(), at(rest, 0), 1}, // a safe step gets no command, though it has a Home
		{examplePlan(), at(start, 0), fine(), at(turbine, 3), 30},
		{examplePlan(), at(turbine, 3), fine(), at(stop, 3), 1},
		{examplePlan(), at(turbine, 1), fine(), at(stop, 1), 1},
		{examplePlan(), at(stop, 3), fine(), at(rest, 0), 20},
		{examplePlan(), at(stop, 3), seenOn(1), at(brake, 0), 40},
		{mixed(), at(0, 1), fine(), at(0, 1), 1},
		{mixed(), at(0, 0), fine(), at(4, 0), 1}, // a safe step without its needs
		{mixed(), at(0, 0), seenOn(0), at(0, 0), 1},
		{mixed(), at(1, 0), fine(), at(1, 0), 1}, // no exits, but a trip
		{mixed(), at(1, 2), seenOff(1), at(1, 2), 1},
		{mixed(), at(3, 0), fine(), at(1, 0), 1},
		{sized(0, 1), at(0, 0), fine(), at(0, 0), 1},
	} {
		if s, n, e := sequence.HomeTurn(c.plan, c.from, c.fault); s != c.to || n != c.ticks || e != api.OK {
			t.Error(c.from, c.fault, s, n, e)
		}
	}
	for _, c := range []struct {
		plan  api.SequencePlan
		from  api.SequenceState
		fault api.SequenceFault
	}{
		{mixed(), at(1, 2), fine()}, {mixed(), at(1, 7), seenOn(1)}, {mixed(), at(1, 0), seenOn(1)},
		{planOf(0, 0, api.SequenceStep{Safe: true}, api.SequenceStep{}), at(1, 0), fine()},
	} {
		if got := call(sequence.HomeTurn(c.plan, c.from, c.fault)); !failed(got, api.ErrOpen) {
			t.Error(c.from, c.fault, got)
		}
	}
}

// P7.2: all turns of random plans.
func TestTurnsAgainstModel(t *testing.T) {
	r := random(1)
	stuck := 0
	for range 400 {
		p := randomPlan(r, kind{5, 10, 5})
		for range 60 {
			s, f := randomState(r, p), randomFault(r, p)
			seen := 0
			for i := range p.Signals {
				if modelSees(s.Signals, f, i) {
					seen += int(math.Pow(2, float64(i)))
				}
			}
			if n, e := sequence.SeenIn(p, s, f); n != seen || e != api.OK {
				t.Fatal(p, s, f, n, e)
			}
			for command := -2; command <= len(p.Steps); command++ {
				checkTurnAgainstModel(t, p, s, api.SequenceTurn{Fault: f, Command: command})
			}
			want, ticks, error := modelHomeTurn(p, s, f)
			if next, n, e := sequence.HomeTurn(p, s, f); next != want || n != ticks || e != error {
				t.Fatal(p, s, f, next, n, e)
			}
			if error == api.ErrOpen {
				stuck++
			}
		}
	}
	if stuck < 100 {
		t.Error(stuck)
	}
}

func checkTurnAgainstModel(t *testing.T, p api.SequencePlan, s api.SequenceState, x api.SequenceTurn) {
	t.Helper()
	may := x.Command == -1
	for _, exit := range p.Steps[s.Step].Exits {
		may = may || exit == x.Command
	}
	next, n, e := sequence.TurnOf(p, s, x)
	if !may {
		if e != api.ErrRefused || n != 0 || next != (api.SequenceState{}) {
			t.Fatal(p, s, x, next, n, e)
		}
		return
	}
	if want, ticks := modelTurn(p, s, x.Fault, x.Command); next != want || n != ticks || e != api.OK {
		t.Fatal(p, s, x, next, n, e)
	}
}

// P7.2, edge case: a fault that shows what is true changes nothing until the signal changes.
func TestFaultsThatShowWhatIsTrue(t *testing.T) {
	r := random(2)
	same := 0
	for range 3000 {
		p := randomPlan(r, kind{5, 10, 5})
		s := randomState(r, p)
		for i := range p.Signals {
			f := api.SequenceFault{Signal: i, On: inSet(s.Signals, i)}
			want, ticks, error := sequence.TurnOf(p, s, api.SequenceTurn{Fault: fine(), Command: -1})
			if want.Signals>>i&1 != s.Signals>>i&1 {
				continue
			}
			same++
			if next, n, e := sequence.TurnOf(p, s, api.SequenceTurn{Fault: f, Command: -1}); next != want || n != ticks || e != error {
				t.Fatal(p, s, f, next, n, e)
			}
		}
	}
	if same < 1000 {
		t.Error(same)
	}
}
