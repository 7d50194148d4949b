package session_test

import (
	"testing"

	"signpost/api"
	"signpost/session"
)

// P16.2: behind the end Step answers ErrDone, and the answer is sent and heard all the same: what is hurt on its way is counted.
func TestStepBehindDone(t *testing.T) {
	for _, n := range []int{1, 8, 9} {
		p, j := of(t, n)
		expectEnd(t, p, j, (n+7)/8)
		dropped := 0
		for range 3 {
			for _, f := range bad() {
				expectStep(t, p, j, bad(), []api.Fate{f}, api.ErrDone)
				if f.Kind != api.Drop {
					dropped++
				}
				expectTold(t, p, true, true, dropped)
			}
			for _, f := range whole() {
				expectStep(t, p, j, bad(), []api.Fate{f}, api.ErrDone)
				expectTold(t, p, true, true, dropped)
			}
		}
	}
}

// untilLost takes a pipe to where the next tick tells that it is lost, while what is sent out has one fate, and what goes back another one.
func untilLost(t *testing.T, p *session.Pipe, j *judge, out, back api.Fate) {
	t.Helper()
	for range 32 {
		expectStep(t, p, j, fates(8, out), fates(1, back), api.OK)
	}
}

// P16.2: a chunk that never comes: eight tries, four ticks from one to the next; the 33rd tick tells that it is lost, and each one behind it.
func TestLost(t *testing.T) {
	for _, n := range []int{1, 3, 8, 9, 256} {
		for _, f := range bad() {
			p, j := of(t, n)
			untilLost(t, p, j, f, api.Fate{})
			for range 5 {
				expectStep(t, p, j, nil, nil, api.ErrLost)
			}
			dropped := 8 * min(n, 8)
			if f.Kind == api.Drop {
				dropped = 0
			}
			expectTold(t, p, false, false, dropped)
		}
	}
}

// P16.2: one chunk that never comes, at any place, ends all; what came isn't told by Data.
func TestOneIsLost(t *testing.T) {
	for at := range 8 {
		p, j := of(t, 8)
		row := fates(8, api.Fate{})
		row[at] = kind(api.Drop)
		expectStep(t, p, j, row, nil, api.OK)
		for range 31 {
			expectStep(t, p, j, fates(1, kind(api.Drop)), nil, api.OK)
		}
		for range 3 {
			expectStep(t, p, j, nil, nil, api.ErrLost)
			expectTold(t, p, false, false, 0)
		}
	}
}

// P16.2: it comes by the eighth try, which is the last one.
func TestEighthTry(t *testing.T) {
	p, j := of(t, 2)
	for range 28 {
		expectStep(t, p, j, fates(2, kind(api.Drop)), nil, api.OK)
	}
	expectTold(t, p, false, false, 0)
	expectStep(t, p, j, nil, nil, api.OK)
	expectTold(t, p, true, true, 0)
	expectStep(t, p, j, nil, nil, api.ErrDone)
}

// P16.2: beside ErrLost the answer is sent, and counted where it is hurt.
func TestStepBehindLost(t *testing.T) {
	p, j := of(t, 8)
	untilLost(t, p, j, kind(api.Drop), api.Fate{})
	dropped := 0
	for _, f := range bad() {
		expectStep(t, p, j, bad(), []api.Fate{f}, api.ErrLost)
		if f.Kind != api.Drop {
			dropped++
		}
		expectTold(t, p, false, false, dropped)
	}
	for _, f := range whole() {
		expectStep(t, p, j, nil, []api.Fate{f}, api.ErrLost)
		expectTold(t, p, false, false, dropped)
	}
}

// P16.2: answers never come, while the text is there: that is lost, too.
func TestAnswersNeverCome(t *testing.T) {
	for _, n := range []int{1, 8} {
		for _, f := range bad() {
			p, j := of(t, n)
			untilLost(t, p, j, api.Fate{}, f)
			for range 3 {
				expectStep(t, p, j, nil, []api.Fate{f}, api.ErrLost)
			}
			dropped := 35
			if f.Kind == api.Drop {
				dropped = 0
			}
			expectTold(t, p, true, false, dropped)
			// One that comes at last is heard: the sender knows behind that tick, and tells it at the next one.
			expectStep(t, p, j, nil, nil, api.ErrLost)
			expectTold(t, p, true, true, dropped)
			expectStep(t, p, j, nil, nil, api.ErrDone)
			expectTold(t, p, true, true, dropped)
		}
	}
}

// P16.2: the answer that comes at the tick at which it is lost is heard.
func TestAnswerAtTheTickOfLoss(t *testing.T) {
	p, j := of(t, 5)
	untilLost(t, p, j, api.Fate{}, kind(api.Drop))
	expectTold(t, p, true, false, 0)
	expectStep(t, p, j, nil, nil, api.ErrLost)
	expectTold(t, p, true, true, 0)
	expectStep(t, p, j, nil, nil, api.ErrDone)
}

// P16.2: an answer tells of all that came till then, so that the last one alone is enough for a window.
func TestLastAnswerIsEnough(t *testing.T) {
	p, j := of(t, 16)
	for range 4 {
		expectStep(t, p, j, nil, fates(1, kind(api.Drop)), api.OK)
	}
	expectTold(t, p, false, false, 0)
	expectStep(t, p, j, nil, nil, api.OK)
	expectTold(t, p, false, false, 0)
	expectStep(t, p, j, nil, nil, api.OK)
	expectTold(t, p, true, true, 0)
}

// Rule 7: two pipes know nothing of each other.
func TestPipesAreTheirOwn(t *testing.T) {
	p, j := of(t, 9)
	q, k := of(t, 9)
	expectStep(t, p, j, fates(8, flip(1)), nil, api.OK)
	expectStep(t, q, k, nil, nil, api.OK)
	expectStep(t, q, k, nil, nil, api.OK)
	expectTold(t, p, false, false, 8)
	expectTold(t, q, true, true, 0)
	restart(t, p, j)
	expectTold(t, q, true, true, 0)
}
