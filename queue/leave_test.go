package queue_test

import (
	"slices"
	"testing"

	"clusterlocks/api"
	"clusterlocks/queue"
)

// wantCancel checks one call of Cancel.
func wantCancel(t *testing.T, q api.Queue, p api.Proc, after api.Queue, err api.Errno, grants ...api.Hold) {
	t.Helper()
	var got result
	got.q, got.grants, got.err = queue.Cancel(q, p)
	got.want(t, after, grants, err, "Cancel", q, p)
}

// wantLower checks one call of Lower.
func wantLower(t *testing.T, q api.Queue, p api.Proc, a api.Amount, after api.Queue, err api.Errno, grants ...api.Hold) {
	t.Helper()
	var got result
	got.q, got.grants, got.err = queue.Lower(q, p, a)
	got.want(t, after, grants, err, "Lower", q, p, a)
}

// wantRemove checks one call of Remove.
func wantRemove(t *testing.T, q api.Queue, p api.Proc, after api.Queue, err api.Errno, grants ...api.Hold) {
	t.Helper()
	var got result
	got.q, got.grants, got.err = queue.Remove(q, p)
	got.want(t, after, grants, err, "Remove", q, p)
}

// wantOfModel checks that Cancel, Lower to each of these amounts, and Remove do what the model does.
func wantOfModel(t *testing.T, q api.Queue, p api.Proc, amounts []api.Amount) {
	t.Helper()
	x := modelOf(q)
	grants, err := x.cancel(p)
	wantCancel(t, q, p, x.after(err), err, grants...)
	x = modelOf(q)
	grants, err = x.remove(p)
	wantRemove(t, q, p, x.after(err), err, grants...)
	for _, a := range amounts {
		x = modelOf(q)
		grants, err = x.lower(p, a)
		wantLower(t, q, p, a, x.after(err), err, grants...)
	}
}

// after is the queue that a change returns, which is zero with an error.
func (x *model) after(err api.Errno) api.Queue {
	if err != api.OK {
		return api.Queue{}
	}
	return x.queue()
}

// P12.3: who cancels a conversion keeps what it holds; those behind it advance.
func TestCancelConversion(t *testing.T) {
	q := base()
	q.Waits = []api.Wait{conv(2, m(api.IS)), conv(3, m(api.S)), conv(4, m(api.IX)), conv(5, m(api.IS))}
	want := api.Queue{Resource: lock, Holds: []api.Hold{grant(0, m(api.IS)), grant(1, m(api.S)), grant(2, m(api.IS)), grant(3, m(api.S))}, Waits: q.Waits[2:], Gen: 5}
	wantCancel(t, q, procs[1], want, api.OK, grant(2, m(api.IS)), grant(3, m(api.S)))
	q = poolBase()
	want = poolBase()
	want.Converts, want.Gen = want.Converts[:1], 5
	wantCancel(t, q, procs[0], want, api.OK)
}

// P12.3: who cancels a claim is not there any more; nobody's Passed changes.
func TestCancelClaim(t *testing.T) {
	q := base()
	want := base()
	want.Waits, want.Gen = want.Waits[1:], 5
	wantCancel(t, q, procs[2], want, api.OK)
	want = base()
	want.Waits, want.Gen = want.Waits[:1], 5
	wantCancel(t, q, procs[3], want, api.OK)
	q.Converts = nil
	want = api.Queue{Resource: lock, Holds: append(q.Holds, grant(3, m(api.IS))), Gen: 5}
	wantCancel(t, q, procs[2], want, api.OK, grant(3, m(api.IS)))
}

// P12.3: ErrUnknown if the process does not wait, also if it holds something.
func TestCancelUnknown(t *testing.T) {
	for _, p := range append(slices.Clone(noProcs), procs[0], procs[4], procs[9]) {
		wantCancel(t, base(), p, api.Queue{}, api.ErrUnknown)
	}
	for _, r := range samples {
		wantCancel(t, api.Queue{Resource: r}, procs[0], api.Queue{}, api.ErrUnknown)
	}
}

// P12.3: a process may lower what it holds to all that this covers; a zero amount makes it hold nothing.
func TestLower(t *testing.T) {
	for _, r := range samples {
		for _, held := range fitting(r) {
			for _, a := range append(fitting(r), m(0)) {
				q := api.Queue{Resource: r, Holds: []api.Hold{grant(6, held)}, Gen: 9}
				want := api.Queue{Resource: r, Holds: []api.Hold{grant(6, a)}, Gen: 10}
				switch {
				case !covers(held, a):
					wantLower(t, q, procs[6], a, api.Queue{}, api.ErrAmount)
					continue
				case a == held:
					want = q
				case a == m(0):
					want.Holds = nil
				}
				wantLower(t, q, procs[6], a, want, api.OK)
			}
		}
	}
}

// P12.3: what is given back goes to those that wait; a queue in which nobody gets it advances, too.
func TestLowerAdvances(t *testing.T) {
	q := poolBase()
	q.Converts = q.Converts[1:]
	want := poolBase()
	want.Holds, want.Converts, want.Gen = []api.Hold{grant(0, u(2)), grant(1, u(1))}, nil, 5
	wantLower(t, q, procs[1], u(1), want, api.OK, grant(0, u(2)))
	want.Holds, want.Waits = []api.Hold{grant(0, u(2)), grant(2, u(1))}, q.Waits[1:]
	wantLower(t, q, procs[1], u(0), want, api.OK, grant(0, u(2)), grant(2, u(1)))
	q = crowd(3, 1, 2)
	q.Holds[2].Amount = m(api.S)
	want = crowd(3, 1, 2)
	want.Gen = 1
	wantLower(t, q, procs[2], m(api.IS), want, api.OK)
}

// P12.3: Lower to what is held returns the queue as it is.
func TestLowerToTheSame(t *testing.T) {
	wantLower(t, base(), procs[0], m(api.IS), base(), api.OK)
	q := poolBase()
	q.Converts, q.Waits = nil, nil
	wantLower(t, q, procs[1], u(2), q, api.OK)
}

// P12.3: the first error that applies: the process holds nothing, has a conversion, or does not hold that much.
func TestLowerErrors(t *testing.T) {
	all := append(unfit(lock), fitting(lock)...)
	for _, a := range all {
		for _, p := range append(slices.Clone(noProcs), procs[2], procs[3], procs[4]) {
			wantLower(t, base(), p, a, api.Queue{}, api.ErrUnknown)
		}
		wantLower(t, base(), procs[1], a, api.Queue{}, api.ErrState)
		if a != m(0) && a != m(api.IS) {
			wantLower(t, base(), procs[0], a, api.Queue{}, api.ErrAmount)
		}
	}
	q := poolBase()
	q.Converts = q.Converts[:1]
	for _, a := range append(unfit(pool(3)), u(2), u(3)) {
		if a != m(0) {
			wantLower(t, q, procs[0], a, api.Queue{}, api.ErrAmount)
		}
	}
}

// P12.3: Remove takes away the grant, the conversion and the claim of a process.
func TestRemove(t *testing.T) {
	want := base()
	want.Holds, want.Converts, want.Gen = want.Holds[:1], nil, 5
	wantRemove(t, base(), procs[1], want, api.OK)
	want = base()
	want.Waits, want.Gen = want.Waits[1:], 5
	wantRemove(t, base(), procs[2], want, api.OK)
	want = api.Queue{Resource: lock, Holds: []api.Hold{grant(1, m(api.X))}, Waits: base().Waits, Gen: 5}
	wantRemove(t, base(), procs[0], want, api.OK, grant(1, m(api.X)))
	want = poolBase()
	want.Holds, want.Converts, want.Waits, want.Gen = []api.Hold{grant(0, u(2)), grant(2, u(1))}, nil, want.Waits[1:], 5
	wantRemove(t, poolBase(), procs[1], want, api.OK, grant(0, u(2)), grant(2, u(1)))
}

// P12.3: ErrUnknown for a process that neither holds nor waits.
func TestRemoveUnknown(t *testing.T) {
	for _, p := range append(slices.Clone(noProcs), procs[4:]...) {
		wantRemove(t, base(), p, api.Queue{}, api.ErrUnknown)
		wantRemove(t, poolBase(), p, api.Queue{}, api.ErrUnknown)
	}
}

// P12.4: Gen becomes the next generation, once per call, behind the greatest one 1.
func TestGenOfLeaving(t *testing.T) {
	for _, gen := range []int{0, 1, 2, 1000, api.MaxGen - 1, api.MaxGen} {
		q := poolBase()
		q.Gen = gen
		q.Holds = append(q.Holds, grant(5, u(1)))
		q.Resource.Units = 4
		cancelled, _, e1 := queue.Cancel(q, procs[3])
		lowered, _, e2 := queue.Lower(q, procs[5], m(0))
		removed, _, e3 := queue.Remove(q, procs[1])
		next := gen%(1<<30) + 1
		if e1 != api.OK || e2 != api.OK || e3 != api.OK || cancelled.Gen != next || lowered.Gen != next || removed.Gen != next {
			t.Errorf("behind %d: %d, %d, %d; %d, %d, %d", gen, cancelled.Gen, lowered.Gen, removed.Gen, e1, e2, e3)
		}
		wantLower(t, q, procs[5], u(1), q, api.OK)
	}
}

// P12.3, P12.4: in each small valid queue, Cancel, Lower and Remove do what the model does.
func TestLeavingSmallQueues(t *testing.T) {
	for _, q := range slices.Concat(smallQueues(lock, m(api.IX), m(api.S), m(api.X)), smallQueues(pool(3), fitting(pool(3))...)) {
		for _, p := range procs[:4] {
			wantOfModel(t, q, p, append(fitting(q.Resource), unfit(q.Resource)[:3]...))
		}
	}
}

// P12.3, P12.4: in the queues of random runs, Cancel, Lower and Remove do what the model does.
func TestLeavingInRuns(t *testing.T) {
	for i, q := range walks(200) {
		for j, p := range procs {
			all := append(fitting(q.Resource), m(0))
			wantOfModel(t, q, p, []api.Amount{all[(i+j)%len(all)], m(0)})
		}
	}
}

// P12.2, P12.3: ErrInvalid for a queue that is not valid, whatever else is wrong.
func TestChangesOfInvalid(t *testing.T) {
	count := 0
	for _, q := range append(anyQueues(3000), api.Queue{}, crowd(0, 0, 1), crowd(1, 1, 0), crowd(5, 0, 4), crowd(9, 0, 0)) {
		x := modelOf(q)
		if sound(q) && (len(x.order) == 0 || len(x.against(x.order[0])) > 0) {
			continue
		}
		count++
		for _, p := range append(slices.Clone(procs), noProcs[:3]...) {
			for _, a := range []api.Amount{{}, m(api.IS), m(api.X), u(1), m(9)} {
				wantClaim(t, q, p, a, 0, api.Queue{}, api.ErrInvalid)
				wantClaim(t, q, p, a, 8, api.Queue{}, api.ErrInvalid)
				wantLower(t, q, p, a, api.Queue{}, api.ErrInvalid)
			}
			wantCancel(t, q, p, api.Queue{}, api.ErrInvalid)
			wantRemove(t, q, p, api.Queue{}, api.ErrInvalid)
		}
	}
	if count < 1000 {
		t.Errorf("%d queues are not valid", count)
	}
}
