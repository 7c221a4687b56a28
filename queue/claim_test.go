package queue_test

import (
	"slices"
	"testing"

	"clusterlocks/api"
	"clusterlocks/queue"
)

// result is what a change returns.
type result struct {
	q      api.Queue
	grants []api.Hold
	err    api.Errno
}

// want checks the result of a call, which its words name.
func (got result) want(t *testing.T, q api.Queue, grants []api.Hold, err api.Errno, words ...any) {
	t.Helper()
	if !same(got.q, q) || !slices.Equal(got.grants, grants) || got.err != err {
		t.Errorf("%v = %+v, %v, %d, want %+v, %v, %d", words, got.q, got.grants, got.err, q, grants, err)
	}
}

// wantClaim checks one call of Claim.
func wantClaim(t *testing.T, q api.Queue, p api.Proc, a api.Amount, priority int, after api.Queue, err api.Errno, grants ...api.Hold) {
	t.Helper()
	var got result
	got.q, got.grants, got.err = queue.Claim(q, p, a, priority)
	got.want(t, after, grants, err, "Claim", q, p, a, priority)
}

// wantClaimOfModel checks that Claim does what the model does.
func wantClaimOfModel(t *testing.T, q api.Queue, p api.Proc, a api.Amount, priority int) {
	t.Helper()
	x := modelOf(q)
	grants, err := x.claim(p, a, priority)
	if err != api.OK {
		x = &model{}
	}
	wantClaim(t, q, p, a, priority, x.queue(), err, grants...)
}

// P12.2, P12.4: the chapter's examples.
func TestExamples(t *testing.T) {
	a, b, c := procs[0], procs[1], procs[3]
	q := api.Queue{Resource: lock, Holds: []api.Hold{grant(0, m(api.S)), grant(1, m(api.S))}, Gen: 2}
	after := q
	after.Waits, after.Gen = []api.Wait{conv(3, m(api.X))}, 3
	wantClaim(t, q, c, m(api.X), 0, after, api.OK)
	wantBlockers(t, after, c, a, b)
	q, after.Converts, after.Gen = after, []api.Wait{conv(0, m(api.X))}, 4
	wantClaim(t, q, a, m(api.X), 0, after, api.OK)
	wantOrder(t, after, a, c)
	q = after
	after.Holds, after.Converts, after.Gen = []api.Hold{grant(0, m(api.X))}, nil, 5
	wantRemove(t, q, b, after, api.OK, grant(0, m(api.X)))
	q = api.Queue{Resource: pool(3), Holds: []api.Hold{grant(0, u(2))}}
	wantClaim(t, q, a, u(3), 0, api.Queue{Resource: pool(3), Holds: []api.Hold{grant(0, u(3))}, Gen: 1}, api.OK, grant(0, u(3)))
}

// P12.2, P12.4: the first claim is granted at once, and Gen is the next one.
func TestFirstClaim(t *testing.T) {
	for _, r := range samples {
		for i, p := range procs {
			for _, a := range fitting(r) {
				for priority := range 8 {
					want := api.Queue{Resource: r, Holds: []api.Hold{grant(i, a)}, Gen: 1}
					wantClaim(t, api.Queue{Resource: r}, p, a, priority, want, api.OK, grant(i, a))
				}
			}
		}
	}
}

// P12.4: Gen becomes the next generation, once per call, behind the greatest one 1.
func TestGenOfClaim(t *testing.T) {
	for _, gen := range []int{0, 1, 2, 1000, api.MaxGen - 1, api.MaxGen} {
		q := crowd(3, 0, 0)
		q.Gen = gen
		for _, p := range []api.Proc{procs[1], procs[7]} {
			for _, a := range []api.Amount{m(api.IX), m(api.X)} {
				got, _, err := queue.Claim(q, p, a, 0)
				if err != api.OK || got.Gen != gen%(1<<30)+1 {
					t.Errorf("Gen becomes %d behind %d, %d", got.Gen, gen, err)
				}
			}
		}
		wantClaim(t, q, procs[1], m(api.IS), 0, q, api.OK)
	}
}

// P12.2: who holds an amount that covers the claim gets the queue as it is, whatever waits there and however full it is.
func TestClaimCovered(t *testing.T) {
	for _, r := range samples {
		for _, held := range fitting(r) {
			for _, a := range fitting(r) {
				q := api.Queue{Resource: r, Holds: []api.Hold{grant(0, held)}, Gen: 9}
				if covers(held, a) {
					wantClaim(t, q, procs[0], a, 7, q, api.OK)
					continue
				}
				want := join(held, a)
				wantClaim(t, q, procs[0], a, 7, api.Queue{Resource: r, Holds: []api.Hold{grant(0, want)}, Gen: 10}, api.OK, grant(0, want))
			}
		}
	}
	q := crowd(8, 1, 0)
	wantClaim(t, q, procs[5], m(api.IS), 3, q, api.OK)
	q = base()
	wantClaim(t, q, procs[0], m(api.IS), 0, q, api.OK)
}

// P12.2: a conversion stands behind the other ones and in front of all claims; its target is the join, and its priority 0.
func TestClaimConverts(t *testing.T) {
	q := base()
	want := base()
	want.Converts, want.Gen = append(want.Converts, conv(0, m(api.IX))), 5
	wantClaim(t, q, procs[0], m(api.IX), 7, want, api.OK)
	q = api.Queue{Resource: lock, Holds: []api.Hold{grant(0, m(api.IX)), grant(4, m(api.IX))}, Waits: []api.Wait{conv(2, m(api.S))}, Gen: 1}
	want = q
	want.Converts, want.Gen = []api.Wait{conv(0, m(api.SIX))}, 2
	wantClaim(t, q, procs[0], m(api.S), 4, want, api.OK)
	q = want
	want.Converts, want.Gen = append(slices.Clone(q.Converts), conv(4, m(api.X))), 3
	wantClaim(t, q, procs[4], m(api.X), 7, want, api.OK)
}

// P12.2: a conversion in front of claims that wait is granted at once where there is room for it.
func TestClaimConvertsAtOnce(t *testing.T) {
	q := api.Queue{Resource: pool(3), Holds: []api.Hold{grant(0, u(1)), grant(1, u(1))}, Waits: []api.Wait{conv(2, u(2))}}
	want := q
	want.Holds, want.Gen = []api.Hold{grant(0, u(1)), grant(1, u(2))}, 1
	wantClaim(t, q, procs[1], u(2), 0, want, api.OK, grant(1, u(2)))
}

// P12.2: a claim is inserted by its priority, and may so become the head and be granted.
func TestClaimOvertakes(t *testing.T) {
	q := api.Queue{Resource: lock, Holds: []api.Hold{grant(0, m(api.S))}, Waits: []api.Wait{{Proc: procs[1], Amount: m(api.X), Priority: 2, Passed: 1}, {Proc: procs[2], Amount: m(api.X), Passed: 2}}}
	want := q
	want.Waits, want.Gen = []api.Wait{q.Waits[0], {Proc: procs[3], Amount: m(api.S), Priority: 2}, {Proc: procs[2], Amount: m(api.X), Passed: 3}}, 1
	wantClaim(t, q, procs[3], m(api.S), 2, want, api.OK)
	want.Holds = append(want.Holds, grant(3, m(api.S)))
	want.Waits = []api.Wait{{Proc: procs[1], Amount: m(api.X), Priority: 2, Passed: 2}, want.Waits[2]}
	wantClaim(t, q, procs[3], m(api.S), 3, want, api.OK, grant(3, m(api.S)))
}

// P12.2: the first error that applies.
func TestClaimErrors(t *testing.T) {
	none := api.Queue{}
	full := crowd(4, 2, 4)
	for _, q := range []api.Queue{base(), full} {
		waiting, free := q.Waits[0].Proc, procs[5]
		for _, priority := range numbers {
			if priority < 0 || priority > 7 {
				wantClaim(t, q, free, m(api.X), priority, none, api.ErrArg)
				wantClaim(t, q, waiting, m(9), priority, none, api.ErrArg)
			}
		}
		for _, p := range noProcs {
			wantClaim(t, q, p, m(api.X), 0, none, api.ErrArg)
			wantClaim(t, q, p, m(9), 8, none, api.ErrArg)
		}
		for _, a := range unfit(lock) {
			wantClaim(t, q, free, a, 0, none, api.ErrAmount)
			wantClaim(t, q, waiting, a, 7, none, api.ErrAmount)
			wantClaim(t, q, procs[0], a, 7, none, api.ErrAmount)
		}
		for _, a := range fitting(lock) {
			for _, w := range slices.Concat(q.Converts, q.Waits) {
				wantClaim(t, q, w.Proc, a, 7, none, api.ErrState)
			}
		}
	}
	for _, a := range unfit(pool(3)) {
		wantClaim(t, poolBase(), procs[5], a, 0, none, api.ErrAmount)
	}
}

// P12.2: ErrTooMany for a claim beside MaxProcs grants and claims, but not for a conversion.
func TestClaimTooMany(t *testing.T) {
	for grants := 1; grants <= 8; grants++ {
		for converts := range min(grants, 3) + 1 {
			if grants == 1 && converts > 0 {
				continue
			}
			q := crowd(grants, converts, 8-grants)
			for _, a := range fitting(lock) {
				for _, priority := range []int{0, 7} {
					// The process with this index neither holds nor waits if there are grants and claims of eight.
					wantClaim(t, q, procs[grants], a, priority, api.Queue{}, api.ErrTooMany)
					wantClaimOfModel(t, q, procs[grants-1], a, priority)
				}
			}
			q = crowd(grants, converts, 7-min(grants, 7))
			wantClaimOfModel(t, q, procs[grants], m(api.X), 3)
		}
	}
}

// P12.2, P12.4: in each small valid queue, Claim does what the model does.
func TestClaimInSmallQueues(t *testing.T) {
	for _, q := range slices.Concat(smallQueues(lock, m(api.IX), m(api.S), m(api.X)), smallQueues(pool(3), fitting(pool(3))...)) {
		for _, p := range procs[:4] {
			for _, a := range append(fitting(q.Resource), m(0)) {
				for _, priority := range []int{0, 3, 7} {
					wantClaimOfModel(t, q, p, a, priority)
				}
			}
		}
	}
}

// P12.2, P12.4: in the queues of random runs, Claim does what the model does.
func TestClaimInRuns(t *testing.T) {
	for i, q := range walks(200) {
		for j, p := range procs {
			all := fitting(q.Resource)
			wantClaimOfModel(t, q, p, all[(i+j)%len(all)], i%8)
			wantClaimOfModel(t, q, p, all[i%len(all)], (i+j)%8)
		}
	}
}
