package queue_test

import (
	"slices"
	"testing"

	"clusterlocks/api"
	"clusterlocks/queue"
)

// wantAdvance checks one call of Advance.
func wantAdvance(t *testing.T, q, want api.Queue, grants ...api.Hold) {
	t.Helper()
	if got, made := queue.Advance(q); !same(got, want) || !slices.Equal(made, grants) {
		t.Errorf("Advance(%+v) = %+v, %v, want %+v, %v", q, got, made, want, grants)
	}
}

// P12.1: heads are granted one after the other, a conversion above what the process held; the queue stops at the first one without room.
func TestAdvance(t *testing.T) {
	q := base()
	q.Holds = q.Holds[1:]
	q.Converts[0].Amount = m(api.SIX)
	q.Waits = []api.Wait{{Proc: procs[2], Amount: m(api.IS), Priority: 7, Passed: 3}, conv(4, m(api.IX)), conv(3, m(api.IS))}
	want := api.Queue{Resource: lock, Holds: []api.Hold{grant(1, m(api.SIX)), grant(2, m(api.IS))}, Waits: q.Waits[1:], Gen: 4}
	wantAdvance(t, q, want, grant(1, m(api.SIX)), grant(2, m(api.IS)))
	wantAdvance(t, want, want)
}

// P12.1: no claim is granted while a conversion waits, and no conversion behind another one that waits.
func TestAdvanceStops(t *testing.T) {
	q := base()
	q.Waits = []api.Wait{conv(2, m(api.IS)), conv(3, m(api.S))}
	wantAdvance(t, q, q)
	q.Converts = []api.Wait{conv(1, m(api.X)), conv(0, m(api.S))}
	wantAdvance(t, q, q)
	q.Converts = []api.Wait{conv(0, m(api.S)), conv(1, m(api.X))}
	want := base()
	want.Holds[0].Amount, want.Converts, want.Waits = m(api.S), q.Converts[1:], q.Waits
	wantAdvance(t, q, want, grant(0, m(api.S)))
	q = poolBase()
	q.Holds[1].Amount = u(1)
	wantAdvance(t, q, q)
	q.Holds = []api.Hold{grant(1, u(1))}
	q.Converts = q.Converts[:1]
	wantAdvance(t, q, api.Queue{Resource: pool(3), Holds: []api.Hold{grant(1, u(3))}, Waits: q.Waits, Gen: 4}, grant(1, u(3)))
}

// P12.1: all that wait may be granted, up to MaxProcs processes.
func TestAdvanceToTheEnd(t *testing.T) {
	q := api.Queue{Resource: pool(8), Holds: []api.Hold{grant(5, u(1))}, Gen: api.MaxGen}
	want := api.Queue{Resource: pool(8), Gen: api.MaxGen}
	var grants []api.Hold
	for _, i := range []int{7, 2, 9, 0, 4, 1, 3} {
		q.Waits = append(q.Waits, conv(i, u(1)))
		grants = append(grants, grant(i, u(1)))
	}
	for _, i := range []int{0, 1, 2, 3, 4, 5, 7, 9} {
		want.Holds = append(want.Holds, grant(i, u(1)))
	}
	wantAdvance(t, q, want, grants...)
}

// P12.1: Advance of each sound queue is that of the model; Gen stays as it is.
func TestAdvanceAny(t *testing.T) {
	longest := 0
	for i, q := range slices.Concat(anyQueues(60000), walks(40)) {
		if !sound(q) {
			continue
		}
		q.Gen = []int{0, 7, api.MaxGen}[i%3]
		x := modelOf(q)
		grants := x.advance()
		wantAdvance(t, q, x.queue(), grants...)
		got, _ := queue.Advance(q)
		wantState(t, got, true, true)
		longest = max(longest, len(grants))
	}
	if longest < 4 {
		t.Errorf("at most %d grants at a time", longest)
	}
}

// P12.1: nothing for a queue that is not sound.
func TestAdvanceUnsound(t *testing.T) {
	for _, q := range anyQueues(5000) {
		if !sound(q) {
			wantAdvance(t, q, api.Queue{})
		}
	}
	for _, r := range badResources {
		wantAdvance(t, api.Queue{Resource: r}, api.Queue{})
	}
	for _, gen := range []int{-1, api.MaxGen + 1} {
		wantAdvance(t, api.Queue{Resource: lock, Waits: []api.Wait{conv(1, m(api.X))}, Gen: gen}, api.Queue{})
	}
}
