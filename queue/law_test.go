package queue_test

import (
	"math/rand"
	"slices"
	"testing"

	"clusterlocks/api"
	"clusterlocks/queue"
)

// Consequences: in every valid queue a process that waits has a blocker, which is not itself and is in the queue; one that does not wait has none.
func TestWhoWaitsHasBlocker(t *testing.T) {
	for _, q := range validQueues() {
		for _, p := range procs {
			blockers := queue.Blockers(q, p)
			_, waits := queue.Wanted(q, p)
			if waits != (len(blockers) > 0) || slices.Contains(blockers, p) {
				t.Errorf("Blockers(%+v, %v) = %v", q, p, blockers)
			}
			for _, b := range blockers {
				if !slices.Contains(queue.Procs(q), b) {
					t.Errorf("Blockers(%+v, %v) = %v", q, p, blockers)
				}
			}
		}
	}
}

// without returns q after Remove of these processes.
func without(t *testing.T, q api.Queue, leaving []api.Proc) api.Queue {
	t.Helper()
	for _, p := range leaving {
		next, _, err := queue.Remove(q, p)
		if err != api.OK {
			t.Errorf("Remove(%+v, %v): %d", q, p, err)
		}
		q = next
	}
	return q
}

// Consequences: the order of removal does not matter; the more processes are removed, the more of the others are granted.
func TestRemovals(t *testing.T) {
	rng := rand.New(rand.NewSource(12))
	for _, q := range validQueues() {
		all := queue.Procs(q)
		rng.Shuffle(len(all), func(i, j int) { all[i], all[j] = all[j], all[i] })
		first, second := rng.Intn(len(all)+1), rng.Intn(len(all)+1)
		few, many := all[:min(first, second)], all[:max(first, second)]
		least, most := without(t, q, few), without(t, q, many)
		other := slices.Clone(many)
		slices.Reverse(other)
		if got := without(t, q, other); !same(got, most) {
			t.Errorf("%+v without %v is %+v, in the other order %+v", q, many, most, got)
		}
		for _, p := range all[len(many):] {
			was, now := queue.Held(least, p), queue.Held(most, p)
			_, waited := queue.Wanted(least, p)
			_, waits := queue.Wanted(most, p)
			if waits && !waited || !waited && was != now || waits && was != now {
				t.Errorf("%v holds %v of %+v without %v, and %v without %v", p, was, q, few, now, many)
			}
		}
	}
}

// history keeps, beside a queue, what has happened to it: when each claim that waits came, and how many claims went past it since.
type history struct {
	q      api.Queue
	came   map[api.Proc]int
	passed map[api.Proc]int
	clock  int
}

// claim makes a claim, which begins to wait if it can.
func (h *history) claim(p api.Proc, a api.Amount, priority int) {
	next, _, err := queue.Claim(h.q, p, a, priority)
	if err != api.OK {
		return
	}
	held := queue.Held(h.q, p) != m(0)
	at := slices.IndexFunc(next.Waits, func(w api.Wait) bool { return w.Proc == p })
	h.clock++
	if held || at < 0 && queue.Held(next, p) == m(0) {
		h.q = next
		return
	}
	// A claim that was granted at once went past all those that still wait.
	for _, w := range next.Waits[at+1:] {
		h.passed[w.Proc]++
	}
	h.came[p], h.passed[p], h.q = h.clock, 0, next
}

// leave makes one of the changes by which p gives something back.
func (h *history) leave(p api.Proc, kind int) {
	var next api.Queue
	var err api.Errno
	switch kind {
	case 0:
		next, _, err = queue.Cancel(h.q, p)
	case 1:
		next, _, err = queue.Lower(h.q, p, m(0))
	default:
		next, _, err = queue.Remove(h.q, p)
	}
	if err == api.OK {
		h.q = next
	}
}

// check compares the queue with what has happened to it.
func (h *history) check(t *testing.T) {
	t.Helper()
	wantState(t, h.q, true, true)
	if x := modelOf(h.q); len(x.held) != len(h.q.Holds) {
		t.Errorf("%+v: a process holds twice", h.q)
	}
	for i, w := range h.q.Waits {
		if h.passed[w.Proc] != w.Passed || w.Passed > 3 {
			t.Errorf("%v in %+v was overtaken %d times", w, h.q, h.passed[w.Proc])
		}
		for _, v := range h.q.Waits[:i] {
			if v.Priority == w.Priority && h.came[v.Proc] > h.came[w.Proc] {
				t.Errorf("%v waits behind %v, which came later, in %+v", w, v, h.q)
			}
		}
	}
	for _, w := range h.q.Converts {
		if queue.Held(h.q, w.Proc) == m(0) {
			t.Errorf("%v is a conversion in %+v", w, h.q)
		}
	}
	for i, g := range h.q.Holds {
		x := &model{r: h.q.Resource, held: map[api.Proc]api.Amount{}}
		for _, other := range h.q.Holds[:i] {
			x.held[other.Proc] = other.Amount
		}
		if len(x.against(api.Wait{Proc: g.Proc, Amount: g.Amount})) > 0 {
			t.Errorf("the grants of %+v are not compatible", h.q)
		}
	}
}

// Consequences: in runs of all changes the grants are compatible, nobody waits behind a later claim of the same priority, no claim is overtaken more than MaxPass times, and only holders make conversions.
func TestRuns(t *testing.T) {
	rng := rand.New(rand.NewSource(12))
	for i := range 400 {
		r := samples[i%len(samples)]
		q, _ := queue.New(r)
		h := history{q: q, came: map[api.Proc]int{}, passed: map[api.Proc]int{}}
		most := 1 + rng.Intn(8)
		for range 60 {
			p, a := procs[rng.Intn(len(procs))], fitting(r)[rng.Intn(len(fitting(r)))]
			if kind := rng.Intn(12); kind < 3 {
				h.leave(p, kind)
			} else {
				h.claim(p, a, rng.Intn(most))
			}
			h.check(t)
		}
	}
}

// Consequences: a conversion goes ahead of all claims, whatever their priority is and however often they were overtaken.
func TestConversionsGoAhead(t *testing.T) {
	for _, q := range walks(60) {
		for _, h := range q.Holds {
			next, _, err := queue.Claim(q, h.Proc, fitting(q.Resource)[len(fitting(q.Resource))-1], 0)
			if err != api.OK || len(next.Converts) <= len(q.Converts) {
				continue
			}
			if !slices.Equal(next.Waits, q.Waits) || queue.Order(next)[len(q.Converts)] != h.Proc {
				t.Errorf("a conversion of %v makes %+v of %+v", h.Proc, next, q)
			}
		}
	}
}

// Consequences: Cancel of a claim that had to wait gives back the queue as it was, but for Gen and those that it overtook.
func TestClaimAndCancel(t *testing.T) {
	for _, q := range validQueues() {
		for _, p := range procs[:3] {
			for _, a := range fitting(q.Resource) {
				next, grants, err := queue.Claim(q, p, a, 0)
				if err != api.OK || len(grants) > 0 || same(next, q) {
					continue
				}
				back, grants, err := queue.Cancel(next, p)
				back.Gen = q.Gen
				if err != api.OK || len(grants) > 0 || !same(back, q) {
					t.Errorf("%+v, a claim of %v by %v, and its end make %+v, %d", q, a, p, back, err)
				}
			}
		}
	}
}
