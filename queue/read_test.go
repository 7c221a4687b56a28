package queue_test

import (
	"math/rand"
	"slices"
	"testing"

	"clusterlocks/api"
	"clusterlocks/queue"
)

// wantOrder checks one call of Order.
func wantOrder(t *testing.T, q api.Queue, want ...api.Proc) {
	t.Helper()
	if got := queue.Order(q); !slices.Equal(got, want) {
		t.Errorf("Order(%+v) = %v, want %v", q, got, want)
	}
}

// wantBlockers checks one call of Blockers.
func wantBlockers(t *testing.T, q api.Queue, p api.Proc, want ...api.Proc) {
	t.Helper()
	if got := queue.Blockers(q, p); !slices.Equal(got, want) {
		t.Errorf("Blockers(%+v, %v) = %v, want %v", q, p, got, want)
	}
}

// wantWanted checks one call of Wanted.
func wantWanted(t *testing.T, q api.Queue, p api.Proc, want api.Amount, waits bool) {
	t.Helper()
	if got, ok := queue.Wanted(q, p); got != want || ok != waits {
		t.Errorf("Wanted(%+v, %v) = %v, %t, want %v, %t", q, p, got, ok, want, waits)
	}
}

// wantProcs checks one call of Procs.
func wantProcs(t *testing.T, q api.Queue, want ...api.Proc) {
	t.Helper()
	if got := queue.Procs(q); !slices.Equal(got, want) {
		t.Errorf("Procs(%+v) = %v, want %v", q, got, want)
	}
}

// P12.5: of a queue with grants, conversions and claims.
func TestReading(t *testing.T) {
	q := poolBase()
	for i, held := range []api.Amount{u(1), u(2), {}, {}, {}} {
		if got := queue.Held(q, procs[i]); got != held {
			t.Errorf("Held by %v = %v", procs[i], got)
		}
	}
	wantWanted(t, q, procs[0], u(2), true)
	wantWanted(t, q, procs[1], u(3), true)
	wantWanted(t, q, procs[2], u(1), true)
	wantWanted(t, q, procs[3], u(3), true)
	wantWanted(t, q, procs[4], u(0), false)
	wantOrder(t, q, procs[1], procs[0], procs[2], procs[3])
	wantProcs(t, q, procs[:4]...)
	q.Waits = append([]api.Wait{conv(7, u(1))}, q.Waits...)
	wantOrder(t, q, procs[1], procs[0], procs[7], procs[2], procs[3])
	wantProcs(t, q, procs[0], procs[1], procs[2], procs[3], procs[7])
}

// P12.5: of a queue in which nobody is.
func TestReadingEmpty(t *testing.T) {
	for _, q := range []api.Queue{{}, {Resource: lock}, {Resource: pool(3), Gen: -1}} {
		for _, p := range append(slices.Clone(procs), noProcs...) {
			if got := queue.Held(q, p); got != m(0) {
				t.Errorf("Held(%+v, %v) = %v", q, p, got)
			}
			wantWanted(t, q, p, m(0), false)
			wantBlockers(t, q, p)
		}
		wantOrder(t, q)
		wantProcs(t, q)
	}
}

// oddQueues returns queues with processes and amounts of all sorts, also such as are not valid or are there several times.
func oddQueues(count int) []api.Queue {
	rng := rand.New(rand.NewSource(12))
	all := slices.Concat(procs[:5], noProcs)
	some := 1
	hold := func() api.Hold {
		return api.Hold{Proc: all[rng.Intn(some)], Amount: api.Amount{Mode: rng.Intn(8) - 1, Units: rng.Intn(3)}}
	}
	wait := func() api.Wait {
		h := hold()
		return api.Wait{Proc: h.Proc, Amount: h.Amount, Priority: rng.Intn(10) - 1, Passed: rng.Intn(6) - 1}
	}
	var out []api.Queue
	for range count {
		some = 1 + rng.Intn(len(all))
		q := api.Queue{Gen: rng.Intn(9) - 3}
		if rng.Intn(2) == 0 {
			q.Resource = samples[rng.Intn(len(samples))]
		}
		for range rng.Intn(10) {
			q.Holds = append(q.Holds, hold())
		}
		for range rng.Intn(6) {
			q.Converts = append(q.Converts, wait())
		}
		for range rng.Intn(6) {
			q.Waits = append(q.Waits, wait())
		}
		out = append(out, q)
	}
	return out
}

// P12.5: Held, Wanted, Order and Procs of whatever queue: the first amounts, all that wait, all processes once.
func TestReadingAny(t *testing.T) {
	for _, q := range slices.Concat(oddQueues(3000), anyQueues(1000), walks(20)) {
		held, wanted, set := map[api.Proc]api.Amount{}, map[api.Proc]api.Amount{}, map[api.Proc]bool{}
		var order []api.Proc
		for _, h := range q.Holds {
			if _, ok := held[h.Proc]; !ok {
				held[h.Proc] = h.Amount
			}
			set[h.Proc] = true
		}
		for _, w := range slices.Concat(q.Converts, q.Waits) {
			if _, ok := wanted[w.Proc]; !ok {
				wanted[w.Proc] = w.Amount
			}
			order = append(order, w.Proc)
			set[w.Proc] = true
		}
		for _, p := range slices.Concat(procs, noProcs) {
			if got := queue.Held(q, p); got != held[p] {
				t.Errorf("Held(%+v, %v) = %v, want %v", q, p, got, held[p])
			}
			want, waits := wanted[p]
			wantWanted(t, q, p, want, waits)
		}
		wantOrder(t, q, order...)
		wantProcs(t, q, sorted(set)...)
	}
}

// P12.5: the processes in front of p, and those that keep p from holding its target.
func TestBlockers(t *testing.T) {
	q := base()
	wantBlockers(t, q, procs[0])
	wantBlockers(t, q, procs[1], procs[0])
	wantBlockers(t, q, procs[2], procs[0], procs[1])
	wantBlockers(t, q, procs[3], procs[1], procs[2])
	wantBlockers(t, q, procs[4])
	q = poolBase()
	wantBlockers(t, q, procs[1], procs[0])
	wantBlockers(t, q, procs[0], procs[1])
	wantBlockers(t, q, procs[2], procs[0], procs[1])
	wantBlockers(t, q, procs[3], procs[0], procs[1], procs[2])
	// Nobody keeps the process of the last claim from holding a unit but those in front.
	q.Holds, q.Converts, q.Waits = q.Holds[1:], nil, []api.Wait{conv(9, u(2)), conv(8, u(1)), conv(7, u(1))}
	wantBlockers(t, q, procs[9], procs[1])
	wantBlockers(t, q, procs[8], procs[9])
	wantBlockers(t, q, procs[7], procs[8], procs[9])
}

// P12.5: Blockers in each valid queue is that of the model.
func TestBlockersOfValid(t *testing.T) {
	for _, q := range validQueues() {
		x := modelOf(q)
		for _, p := range append(slices.Clone(procs), noProcs[:2]...) {
			wantBlockers(t, q, p, x.blockers(p)...)
		}
	}
}

// P12.5: nobody waits for anybody in a queue that is not valid.
func TestBlockersOfInvalid(t *testing.T) {
	for _, q := range anyQueues(3000) {
		x := modelOf(q)
		if sound(q) && (len(x.order) == 0 || len(x.against(x.order[0])) > 0) {
			continue
		}
		for _, p := range procs {
			wantBlockers(t, q, p)
		}
	}
	for _, q := range oddQueues(1000) {
		q.Gen = -1
		for _, p := range slices.Concat(procs, noProcs) {
			wantBlockers(t, q, p)
		}
	}
	for _, change := range []func(*api.Queue){
		func(q *api.Queue) { q.Gen = api.MaxGen + 1 },
		func(q *api.Queue) { q.Holds = q.Holds[1:] },
		func(q *api.Queue) { q.Holds[1].Amount = m(api.X) },
		func(q *api.Queue) { q.Converts[0].Priority = 1 },
	} {
		q := base()
		change(&q)
		for _, p := range procs {
			wantBlockers(t, q, p)
		}
	}
}

// P12.5: the lists of a queue may be long.
func TestReadingLongLists(t *testing.T) {
	const long = 200000
	q := api.Queue{Resource: lock, Holds: slices.Repeat([]api.Hold{grant(2, m(api.S))}, long), Converts: slices.Repeat([]api.Wait{conv(1, m(api.X))}, long), Waits: slices.Repeat([]api.Wait{conv(0, m(api.X))}, long)}
	wantProcs(t, q, procs[:3]...)
	wantWanted(t, q, procs[0], m(api.X), true)
	wantWanted(t, q, procs[2], m(0), false)
	wantBlockers(t, q, procs[0])
	if got := queue.Order(q); len(got) != 2*long || got[long-1] != procs[1] || got[long] != procs[0] {
		t.Errorf("Order of %d that wait", len(got))
	}
	if queue.Held(q, procs[2]) != m(api.S) || queue.Held(q, procs[0]) != m(0) {
		t.Error("Held of long lists")
	}
	wantState(t, q, false, false)
}
