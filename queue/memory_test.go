package queue_test

import (
	"slices"
	"testing"

	"clusterlocks/api"
	"clusterlocks/queue"
)

// roomy returns a copy of q behind whose lists lie further elements.
func roomy(q api.Queue) api.Queue {
	q.Holds = slices.Concat(q.Holds, []api.Hold{grant(9, m(api.IS)), {}})[:len(q.Holds)]
	q.Converts = slices.Concat(q.Converts, []api.Wait{conv(0, m(api.X)), {}})[:len(q.Converts)]
	q.Waits = slices.Concat(q.Waits, []api.Wait{conv(9, m(api.IX)), {}})[:len(q.Waits)]
	return q
}

// whole returns q with what lies behind its lists.
func whole(q api.Queue) api.Queue {
	q.Holds, q.Converts, q.Waits = q.Holds[:cap(q.Holds)], q.Converts[:cap(q.Converts)], q.Waits[:cap(q.Waits)]
	return q
}

// spoil changes all elements of l, and those behind its length.
func spoil[T any](l []T, with T) {
	for i := range l[:cap(l)] {
		l[:cap(l)][i] = with
	}
}

// spoil changes all that a change has returned.
func (got result) spoil() {
	spoil(got.grants, api.Hold{Amount: u(77)})
	spoil(got.q.Holds, api.Hold{Amount: u(78)})
	spoil(got.q.Converts, api.Wait{Passed: 79})
	spoil(got.q.Waits, api.Wait{Passed: 80})
}

// wantLike checks that the results of several changes are what is wanted; the words say whose they are.
func wantLike(t *testing.T, got, want []result, words ...any) {
	t.Helper()
	for i, w := range want {
		got[i].want(t, w.q, w.grants, w.err, words...)
	}
}

// changes returns the results of all changes of q by p.
func changes(q api.Queue, p api.Proc) []result {
	var out []result
	add := func(next api.Queue, grants []api.Hold, err api.Errno) {
		out = append(out, result{next, grants, err})
	}
	for _, a := range append(fitting(q.Resource)[:1:1], fitting(q.Resource)[len(fitting(q.Resource))-1]) {
		add(queue.Claim(q, p, a, 0))
		add(queue.Claim(q, p, a, 7))
		add(queue.Lower(q, p, a))
	}
	add(queue.Lower(q, p, m(0)))
	add(queue.Lower(q, p, queue.Held(q, p)))
	add(queue.Cancel(q, p))
	add(queue.Remove(q, p))
	next, grants := queue.Advance(q)
	add(next, grants, api.OK)
	return out
}

// someQueues returns valid and other queues.
func someQueues() []api.Queue {
	return slices.Concat(walks(30), anyQueues(600), smallQueues(lock, m(api.S), m(api.X)), []api.Queue{base(), poolBase(), crowd(5, 3, 3)})
}

// R2: arguments are not changed, and what lies behind their length is neither changed nor read.
func TestArgumentsStayAsTheyAre(t *testing.T) {
	for _, q := range someQueues() {
		room, was := roomy(q), roomy(q)
		for _, p := range procs {
			wantLike(t, changes(room, p), changes(q, p), "with room behind", q, p)
			a, ok := queue.Wanted(room, p)
			b, waits := queue.Wanted(q, p)
			if a != b || ok != waits || queue.Held(room, p) != queue.Held(q, p) || !slices.Equal(queue.Blockers(room, p), queue.Blockers(q, p)) {
				t.Errorf("what lies behind %+v matters for what %v waits for", q, p)
			}
		}
		if !slices.Equal(queue.Order(room), queue.Order(q)) || !slices.Equal(queue.Procs(room), queue.Procs(q)) || queue.Sound(room) != queue.Sound(q) || queue.Settled(room) != queue.Settled(q) || queue.Valid(room) != queue.Valid(q) {
			t.Errorf("what lies behind %+v matters", q)
		}
		if !same(whole(room), whole(was)) {
			t.Errorf("%+v was changed to %+v", whole(was), whole(room))
		}
	}
}

// R2: results share no memory with arguments or with other results.
func TestResultsAreNew(t *testing.T) {
	for _, q := range someQueues() {
		room, was := roomy(q), roomy(q)
		for _, p := range procs {
			kept := changes(room, p)
			for _, other := range changes(room, p) {
				other.spoil()
			}
			wantLike(t, kept, changes(q, p), "beside others that are spoilt", q, p)
			blockers := queue.Blockers(room, p)
			spoil(queue.Blockers(room, p), api.Proc{Num: -7})
			if !slices.Equal(blockers, queue.Blockers(q, p)) {
				t.Errorf("blockers for %+v and %v are not apart", q, p)
			}
		}
		order, all := queue.Order(room), queue.Procs(room)
		spoil(queue.Order(room), api.Proc{Num: -7})
		spoil(queue.Procs(room), api.Proc{Num: -7})
		if !slices.Equal(order, queue.Order(q)) || !slices.Equal(all, queue.Procs(q)) || !same(whole(room), whole(was)) {
			t.Errorf("a result shares memory with %+v", was)
		}
	}
}

// R2: the lists of one result share no memory with each other.
func TestListsOfResultAreApart(t *testing.T) {
	for _, q := range someQueues() {
		for _, p := range procs {
			apart := changes(q, p)
			for i, got := range changes(q, p) {
				spoil(got.grants, api.Hold{Amount: u(77)})
				if !same(got.q, apart[i].q) {
					t.Errorf("the grants for %+v and %v lie in the queue", q, p)
				}
				spoil(got.q.Converts, api.Wait{Passed: 79})
				if !slices.Equal(got.q.Waits, apart[i].q.Waits) {
					t.Errorf("the conversions for %+v and %v lie among the claims", q, p)
				}
			}
		}
	}
}

// R2: a nil list and an empty one are equivalent.
func TestNilAndEmpty(t *testing.T) {
	for _, q := range []api.Queue{{Resource: lock}, crowd(2, 0, 2), crowd(2, 1, 0)} {
		full := q
		if q.Holds == nil {
			full.Holds = []api.Hold{}
		}
		if q.Converts == nil {
			full.Converts = []api.Wait{}
		}
		if q.Waits == nil {
			full.Waits = make([]api.Wait, 0, 9)
		}
		wantState(t, full, true, true)
		for _, p := range procs {
			wantLike(t, changes(full, p), changes(q, p), "with empty lists", q, p)
			wantBlockers(t, full, p, queue.Blockers(q, p)...)
		}
		wantOrder(t, full, queue.Order(q)...)
		wantProcs(t, full, queue.Procs(q)...)
	}
}
