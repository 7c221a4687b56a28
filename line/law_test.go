package line_test

import (
	"math/rand"
	"slices"
	"testing"

	"clusterlocks/api"
	"clusterlocks/line"
)

// wantSameOrder checks that the processes of now that were in the line before are in the same order as they were.
func wantSameOrder(t *testing.T, was, now []api.Wait) {
	t.Helper()
	last := -1
	for _, w := range now {
		if at := line.Find(was, w.Proc); at >= 0 && at <= last {
			t.Errorf("%v became %v", was, now)
		} else if at >= 0 {
			last = at
		}
	}
}

// run keeps, beside a line, what has happened to it: how often each claim was overtaken, and when it came.
type run struct {
	line     []api.Wait
	overtook map[api.Proc]int
	came     map[api.Proc]int
	clock    int
}

// enter inserts w, and counts whom it overtakes.
func (r *run) enter(t *testing.T, w api.Wait) {
	t.Helper()
	now, at, err := line.Insert(r.line, w)
	if err != api.OK {
		t.Fatalf("Insert(%v, %v): %d", r.line, w, err)
	}
	wantSameOrder(t, r.line, now)
	for i, e := range r.line {
		if e.Passed == 3 && at <= i {
			t.Errorf("Insert(%v, %v) = %v: overtakes at or in front of %d", r.line, w, now, i)
		}
	}
	for _, e := range r.line[at:] {
		r.overtook[e.Proc]++
	}
	r.line, r.clock = now, r.clock+1
	r.overtook[w.Proc], r.came[w.Proc] = 0, r.clock
}

// leave removes p.
func (r *run) leave(t *testing.T, p api.Proc) {
	t.Helper()
	now, ok := line.Remove(r.line, p)
	if ok != (line.Find(r.line, p) >= 0) || line.Find(now, p) >= 0 {
		t.Errorf("Remove(%v, %v) = %v, %t", r.line, p, now, ok)
	}
	wantSameOrder(t, r.line, now)
	r.line = now
}

// check compares the line with what has happened to it.
func (r *run) check(t *testing.T) {
	t.Helper()
	if !line.Valid(r.line) {
		t.Errorf("Valid(%v) = false", r.line)
	}
	for i, w := range r.line {
		if w.Passed != r.overtook[w.Proc] || r.overtook[w.Proc] > 3 {
			t.Errorf("%v in %v was overtaken %d times", w, r.line, r.overtook[w.Proc])
		}
		for _, v := range r.line[:i] {
			if v.Priority == w.Priority && r.came[v.Proc] > r.came[w.Proc] {
				t.Errorf("%v stands in front of %v in %v, but came later", v, w, r.line)
			}
		}
	}
}

// Consequences: in lines that claims enter and leave, elements keep their order, nobody is overtaken more than MaxPass times, and within one priority the line is first come, first served.
func TestRuns(t *testing.T) {
	rng := rand.New(rand.NewSource(11))
	for range 300 {
		r := run{overtook: map[api.Proc]int{}, came: map[api.Proc]int{}}
		most := 1 + rng.Intn(8)
		for range 100 {
			i := rng.Intn(len(procs))
			if line.Find(r.line, procs[i]) < 0 && len(r.line) < 8 {
				r.enter(t, wait(i, rng.Intn(most), 0))
			} else {
				r.leave(t, procs[i])
			}
			r.check(t)
		}
	}
}

// Consequences: an element with Passed equal to MaxPass, and everything in front of it, is overtaken by nobody.
func TestNobodyOvertakesPassed(t *testing.T) {
	for _, l := range slices.Concat(lines(2, 0, 3, 7), lines(3, 0, 6)) {
		first := 0
		for i, e := range l {
			if e.Passed == 3 {
				first = i + 1
			}
		}
		for priority := range 8 {
			now, at, err := line.Insert(l, wait(9, priority, 0))
			if err != api.OK || at < first || !slices.Equal(now[:first], l[:first]) {
				t.Errorf("Insert of priority %d into %v = %v, %d, %d", priority, l, now, at, err)
			}
		}
	}
}

// Consequences: a claim that leaves and comes back is a new one: it comes behind its priority, and was not overtaken.
func TestComingBack(t *testing.T) {
	l := []api.Wait{wait(0, 1, 3), wait(1, 1, 2), wait(2, 1, 1)}
	left, ok := line.Remove(l, procs[0])
	if !ok || !slices.Equal(left, l[1:]) {
		t.Fatalf("Remove = %v, %t", left, ok)
	}
	wantInsert(t, left, wait(0, 1, 0), []api.Wait{l[1], l[2], wait(0, 1, 0)}, 2)
}
