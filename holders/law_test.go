package holders_test

import (
	"slices"
	"testing"

	"clusterlocks/api"
	"clusterlocks/holders"
)

// validLists returns valid lists of all lengths for r.
func validLists(r api.Resource) [][]api.Hold {
	out := lists(r, 3)
	for n := 4; n <= 8; n++ {
		for _, a := range fitting(r) {
			l := grants(slices.Repeat(fitting(r)[:1], n)...)
			out = append(out, l, holders.Set(l, procs[n/2], a))
		}
	}
	return slices.DeleteFunc(out, func(l []api.Hold) bool { return !holders.Valid(r, l) })
}

// Consequences: Against is empty exactly if Room is true, unless l has MaxProcs elements and p is not one of them.
func TestAgainstAndRoom(t *testing.T) {
	for _, r := range samples {
		for _, l := range validLists(r) {
			for _, p := range procs {
				if len(l) == 8 && !slices.Contains(holders.Procs(l), p) {
					continue
				}
				for _, a := range fitting(r) {
					against, room := holders.Against(r, l, p, a), holders.Room(r, l, p, a)
					if (len(against) == 0) != room {
						t.Errorf("Against(%+v, %v, %v, %v) = %v, but Room = %t", r, l, p, a, against, room)
					}
				}
			}
		}
	}
}

// Consequences: removing elements from a valid list leaves a valid list, and never makes Room false.
func TestRemovingElements(t *testing.T) {
	for _, r := range samples {
		for _, l := range validLists(r) {
			for left := range 1 << len(l) {
				var part []api.Hold
				for i, h := range l {
					if left>>i&1 == 1 {
						part = append(part, h)
					}
				}
				wantAsMuchRoom(t, r, l, part)
			}
		}
	}
}

// wantAsMuchRoom checks that part, which is a part of l, is valid, and leaves at least as much room as l.
func wantAsMuchRoom(t *testing.T, r api.Resource, l, part []api.Hold) {
	t.Helper()
	if !holders.Valid(r, part) {
		t.Errorf("Valid(%+v, %v) = false, a part of %v", r, part, l)
	}
	for _, p := range []api.Proc{procs[0], procs[1], procs[9]} {
		for _, a := range fitting(r) {
			if holders.Room(r, l, p, a) && !holders.Room(r, part, p, a) {
				t.Errorf("Room(%+v, %v, %v, %v) = false, but there was room beside %v", r, part, p, a, l)
			}
		}
	}
}

// P10.1, P10.2: Get reads what Set wrote, and Set leaves what others hold, in any list.
func TestGetBehindSet(t *testing.T) {
	for _, l := range oddLists(500) {
		for _, p := range append(slices.Clone(procs[:6]), noProcs...) {
			for _, a := range append(slices.Clone(oddAmounts), m(0)) {
				now := holders.Set(l, p, a)
				if got := holders.Get(now, p); got != a {
					t.Errorf("Get(Set(%v, %v, %v)) = %v", l, p, a, got)
				}
				for _, q := range procs[:6] {
					if q != p && holders.Get(now, q) != holders.Get(l, q) {
						t.Errorf("Set(%v, %v, %v) changes what %v holds", l, p, a, q)
					}
				}
			}
		}
	}
}
