package line_test

import (
	"math/rand"
	"slices"
	"testing"

	"clusterlocks/api"
	"clusterlocks/line"
)

// oddLines returns lists of claims, most of which are no lines: too long, with processes that are there several times, and with fields of all sorts.
func oddLines(count int) [][]api.Wait {
	rng := rand.New(rand.NewSource(11))
	all := append(slices.Clone(procs[:5]), noProcs...)
	var out [][]api.Wait
	for range count {
		some := 1 + rng.Intn(len(all))
		l := make([]api.Wait, rng.Intn(12))
		for i := range l {
			l[i] = api.Wait{Proc: all[rng.Intn(some)], Priority: rng.Intn(10) - 1, Passed: rng.Intn(6) - 1}
			if rng.Intn(5) > 0 {
				l[i].Amount = amounts[rng.Intn(len(amounts))]
			}
		}
		out = append(out, l)
	}
	return out
}

// wantOf checks Find, Ahead and Remove of p.
func wantOf(t *testing.T, l []api.Wait, p api.Proc, at int, ahead []api.Proc, rest []api.Wait) {
	t.Helper()
	if got := line.Find(l, p); got != at {
		t.Errorf("Find(%v, %v) = %d, want %d", l, p, got, at)
	}
	if got := line.Ahead(l, p); !slices.Equal(got, ahead) {
		t.Errorf("Ahead(%v, %v) = %v, want %v", l, p, got, ahead)
	}
	if got, ok := line.Remove(l, p); ok != (at >= 0) || !slices.Equal(got, rest) {
		t.Errorf("Remove(%v, %v) = %v, %t, want %v", l, p, got, ok, rest)
	}
}

// P11.1: the chapter's example of Ahead.
func TestExampleOfAhead(t *testing.T) {
	l := []api.Wait{wait(1, 2, 0), wait(4, 0, 0), wait(2, 0, 0)}
	if got := line.Ahead(l, procs[2]); !slices.Equal(got, []api.Proc{procs[1], procs[4]}) {
		t.Errorf("Ahead = %v", got)
	}
}

// P11.1, P11.3: at each place of lines of all lengths.
func TestPlaces(t *testing.T) {
	for n := range 9 {
		l := claims(n)
		for at := range l {
			wantOf(t, l, procs[at], at, procs[:at], append(claims(n)[:at], l[at+1:]...))
		}
		for _, p := range append(slices.Clone(procs[n:]), noProcs...) {
			wantOf(t, l, p, -1, nil, l)
		}
	}
}

// P11.1, P11.3: whatever the list is, Find and Ahead speak of the first element with the process, and Remove takes them all away.
func TestAnyList(t *testing.T) {
	for _, l := range oddLines(2000) {
		for _, p := range append(slices.Clone(procs[:6]), noProcs...) {
			at := -1
			var ahead []api.Proc
			var rest []api.Wait
			for i, w := range l {
				switch {
				case w.Proc != p:
					rest = append(rest, w)
				case at < 0:
					at = i
					for _, v := range l[:i] {
						ahead = append(ahead, v.Proc)
					}
				}
			}
			wantOf(t, l, p, at, ahead, rest)
		}
	}
}

// P11.1, P11.3: all three numbers of a process count, and nothing else of the claim.
func TestOtherProcs(t *testing.T) {
	l := []api.Wait{{Proc: api.Proc{Site: 1, Inc: 2, Num: 3}, Amount: amounts[0], Priority: 1, Passed: 2}}
	for _, p := range []api.Proc{{Site: 2, Inc: 2, Num: 3}, {Site: 1, Inc: 3, Num: 3}, {Site: 1, Inc: 2, Num: 4}, {Site: 1, Inc: 3, Num: 2}, {}} {
		wantOf(t, l, p, -1, nil, l)
	}
	wantOf(t, l, l[0].Proc, 0, nil, nil)
	wantOf(t, []api.Wait{{}}, api.Proc{}, 0, nil, nil)
}

// P11.1, P11.3: a list may be long.
func TestLongList(t *testing.T) {
	a, b := wait(0, 0, 0), wait(1, 0, 0)
	long := append(slices.Repeat([]api.Wait{a}, 100000), b)
	wantOf(t, long, a.Proc, 0, nil, []api.Wait{b})
	wantOf(t, long, b.Proc, 100000, slices.Repeat([]api.Proc{a.Proc}, 100000), long[:100000])
	wantOf(t, long, procs[2], -1, nil, long)
}
