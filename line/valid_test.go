package line_test

import (
	"math"
	"slices"
	"testing"

	"clusterlocks/api"
	"clusterlocks/line"
)

// numbers are ordinary numbers, those at the limits, and numbers that would be in range if they were cut to fewer bits.
var numbers = []int{
	-9, -3, -1, 0, 1, 2, 3, 4, 5, 6, 7, 8, 9, 98, 99, 100, 998, 999, 1000,
	1<<8 + 1, -1<<8 + 3, 1<<16 + 2, 1<<32 + 1, -1<<32 + 2, math.MinInt, math.MinInt + 1, math.MaxInt,
}

// procs are valid processes in no order; each number of a process is that of another one, too.
var procs = []api.Proc{
	{Site: 1, Inc: 1, Num: 1}, {Site: 0, Inc: 1, Num: 1}, {Site: 3, Inc: 99, Num: 999}, {Site: 0, Inc: 2, Num: 1}, {Site: 0, Inc: 1, Num: 2},
	{Site: 0, Inc: 99, Num: 999}, {Site: 3, Inc: 1, Num: 999}, {Site: 3, Inc: 99, Num: 1}, {Site: 2, Inc: 1, Num: 1}, {Site: 1, Inc: 2, Num: 1},
}

// noProcs are processes that are not valid, each because of one number but for the first.
var noProcs = []api.Proc{
	{}, {Site: -1, Inc: 1, Num: 1}, {Site: 4, Inc: 1, Num: 1}, {Inc: 0, Num: 1}, {Inc: -1, Num: 1}, {Inc: 100, Num: 1}, {Inc: 1, Num: 0}, {Inc: 1, Num: -1}, {Inc: 1, Num: 1000},
	{Site: math.MinInt, Inc: 1, Num: 1}, {Site: 1, Inc: math.MaxInt, Num: 1}, {Site: 1, Inc: 1, Num: math.MaxInt}, {Site: 1 << 32, Inc: 1, Num: 1},
}

// amounts are those that fit a lock, and those that fit a pool of 8 units.
var amounts = []api.Amount{
	{Mode: api.IS}, {Units: 8}, {Mode: api.X}, {Units: 1}, {Mode: api.S}, {Mode: api.SIX}, {Units: 2}, {Mode: api.IX},
	{Units: 3}, {Units: 4}, {Units: 5}, {Units: 6}, {Units: 7},
}

// wait returns a valid claim of the process with this index; the amount depends on the index, too.
func wait(i, priority, passed int) api.Wait {
	return api.Wait{Proc: procs[i], Amount: amounts[i], Priority: priority, Passed: passed}
}

// claims returns a line of claims of the first n processes, with priorities and overtakings of all sorts.
func claims(n int) []api.Wait {
	var l []api.Wait
	for i := range n {
		l = append(l, wait(i, (i*5+2)%8, (i+1)%4))
	}
	return l
}

// badWaits returns claims that are not valid, each because of one field.
func badWaits() []api.Wait {
	var out []api.Wait
	for _, p := range noProcs {
		out = append(out, api.Wait{Proc: p, Amount: amounts[0]})
	}
	for _, n := range numbers {
		if n < 0 || n > 7 {
			out = append(out, wait(0, n, 0))
		}
		if n < 0 || n > 3 {
			out = append(out, wait(0, 0, n))
		}
		for _, k := range numbers {
			if a := (api.Amount{Mode: n, Units: k}); !slices.Contains(amounts, a) {
				out = append(out, api.Wait{Proc: procs[0], Amount: a})
			}
		}
	}
	return out
}

// P11.1: a claim is valid with every mode or number of units, every priority from 0 to 7, and 0 to 3 overtakings.
func TestValidWait(t *testing.T) {
	for _, p := range procs {
		for _, a := range amounts {
			for priority := range 8 {
				for passed := range 4 {
					w := api.Wait{Proc: p, Amount: a, Priority: priority, Passed: passed}
					if !line.ValidWait(w) {
						t.Errorf("ValidWait(%+v) = false", w)
					}
				}
			}
		}
	}
}

// P11.1: a claim is not valid if one of its fields is not, the zero amount neither.
func TestValidWaitRefuses(t *testing.T) {
	for _, w := range append(badWaits(), api.Wait{}, api.Wait{Proc: procs[0]}, wait(0, 8, 4)) {
		if line.ValidWait(w) {
			t.Errorf("ValidWait(%+v) = true", w)
		}
	}
}

// P11.1: up to MaxProcs claims are a line, whatever the order of their processes, priorities and overtakings is; more are not.
func TestValid(t *testing.T) {
	for n := range len(procs) + 1 {
		l := claims(n)
		for range n + 1 {
			if got := line.Valid(l); got != (n <= 8) {
				t.Errorf("Valid(%v) = %t", l, got)
			}
			if n > 0 {
				l = append(l[1:], l[0])
			}
		}
		slices.Reverse(l)
		if got := line.Valid(l); got != (n <= 8) {
			t.Errorf("Valid(%v) = %t", l, got)
		}
	}
	if line.Valid(make([]api.Wait, 1<<20)) || line.Valid(slices.Repeat(claims(8), 1<<17)) {
		t.Error("a great many claims")
	}
}

// P11.1: claims that differ in their processes only are a line, and those that differ in all else are not.
func TestValidProcs(t *testing.T) {
	for i := range 8 {
		for j := range i {
			l := slices.Repeat([]api.Wait{wait(0, 4, 1)}, 8)
			for k := range l {
				l[k].Proc = procs[k]
			}
			if !line.Valid(l) {
				t.Errorf("Valid(%v) = false", l)
			}
			l[i] = api.Wait{Proc: l[j].Proc, Amount: amounts[1], Priority: 5, Passed: 2}
			if line.Valid(l) || line.Valid(l[:i+1]) || line.Valid(l[j:]) {
				t.Errorf("Valid(%v) = true: one process at %d and %d", l, j, i)
			}
		}
	}
}

// P11.1: a claim that is not valid makes the line invalid, wherever it stands.
func TestValidElements(t *testing.T) {
	for _, bad := range badWaits() {
		for at := range 3 {
			l := []api.Wait{wait(1, 5, 1), wait(2, 0, 0), wait(3, 5, 3)}
			l[at] = bad
			if line.Valid(l) {
				t.Errorf("Valid(%v) = true", l)
			}
		}
		if line.Valid([]api.Wait{bad}) || line.Valid(append(claims(8)[1:], bad)) {
			t.Errorf("Valid with %v alone or behind seven others = true", bad)
		}
	}
}
