package ident_test

import (
	"math"
	"testing"

	"clusterlocks/api"
	"clusterlocks/ident"
)

// last is the greatest valid time; it is the greatest generation, too.
const last = 1 << 30

func stamp(time, site int) api.Stamp {
	return api.Stamp{Time: time, Site: site}
}

// validStamps are valid stamps at the edges of their limits, but for the last time.
var validStamps = []api.Stamp{stamp(0, 0), stamp(0, 3), stamp(1, 1), stamp(3, 0), stamp(7, 1), stamp(7, 2), stamp(last-2, 3), stamp(last-1, 0), stamp(last-1, 2)}

// invalidStamps have a Time or a Site that is out of its limits.
var invalidStamps = []api.Stamp{
	stamp(-1, 0), stamp(last+1, 0), stamp(last+1, 3), stamp(1<<32, 1), stamp(math.MinInt, 0), stamp(math.MaxInt, 0),
	stamp(0, -1), stamp(0, 4), stamp(5, 5), stamp(5, 1<<32), stamp(5, math.MinInt), stamp(5, math.MaxInt), stamp(last, 4), stamp(-1, -1),
}

// P2.1: a stamp is valid if its Time and its Site are within their limits.
func TestValidStamp(t *testing.T) {
	for _, s := range append([]api.Stamp{stamp(last, 0), stamp(last, 3)}, validStamps...) {
		if !ident.ValidStamp(s) {
			t.Errorf("ValidStamp(%v) = false", s)
		}
	}
	for _, s := range invalidStamps {
		if ident.ValidStamp(s) {
			t.Errorf("ValidStamp(%v) = true", s)
		}
	}
}

// P2.1, Consequences: CompareStamp orders all values totally, by Time, then Site.
func TestCompareStamp(t *testing.T) {
	var ascending []api.Stamp
	for _, time := range anyNumbers {
		for _, site := range anyNumbers {
			ascending = append(ascending, stamp(time, site))
		}
	}
	for i, s := range ascending {
		for j, u := range ascending {
			if got := ident.CompareStamp(s, u); got != sign(i, j) {
				t.Errorf("CompareStamp(%v, %v) = %d, want %d", s, u, got, sign(i, j))
			}
		}
	}
}

// P2.5: Merge returns the site of the first stamp, and a time behind both.
func TestMerge(t *testing.T) {
	table := []struct{ s, t, want api.Stamp }{
		{stamp(3, 0), stamp(7, 1), stamp(8, 0)},
		{stamp(7, 1), stamp(3, 0), stamp(8, 1)},
		{stamp(0, 0), stamp(0, 0), stamp(1, 0)},
		{stamp(5, 2), stamp(5, 3), stamp(6, 2)},
		{stamp(last-1, 2), stamp(0, 1), stamp(last, 2)},
		{stamp(0, 3), stamp(last-1, 1), stamp(last, 3)},
		{stamp(last-1, 0), stamp(last-1, 0), stamp(last, 0)},
	}
	for _, x := range table {
		if got, err := ident.Merge(x.s, x.t); got != x.want || err != api.OK {
			t.Errorf("Merge(%v, %v) = %v, %d, want %v", x.s, x.t, got, err, x.want)
		}
	}
}

// Consequences: Merge(s, t) is valid, and greater than both.
func TestMergeIsGreater(t *testing.T) {
	for _, s := range validStamps {
		for _, u := range validStamps {
			got, err := ident.Merge(s, u)
			if err != api.OK || !ident.ValidStamp(got) || ident.CompareStamp(got, s) != 1 || ident.CompareStamp(got, u) != 1 {
				t.Errorf("Merge(%v, %v) = %v, %d", s, u, got, err)
			}
		}
	}
}

// P2.5: the errors of Merge, in their order.
func TestMergeErrors(t *testing.T) {
	check := func(s, u api.Stamp, want api.Errno) {
		t.Helper()
		if got, err := ident.Merge(s, u); got != (api.Stamp{}) || err != want {
			t.Errorf("Merge(%v, %v) = %v, %d, want error %d", s, u, got, err, want)
		}
	}
	for _, s := range validStamps {
		check(s, stamp(last, 1), api.ErrLimit)
		check(stamp(last, 3), s, api.ErrLimit)
	}
	check(stamp(last, 1), stamp(last, 1), api.ErrLimit)
	for _, bad := range invalidStamps {
		for _, s := range append([]api.Stamp{stamp(last, 2)}, validStamps...) {
			check(s, bad, api.ErrArg)
			check(bad, s, api.ErrArg)
		}
		check(bad, bad, api.ErrArg)
	}
}

// P2.6: generations are counted from 1 on, and behind the last one from 1 on again.
func TestNext(t *testing.T) {
	table := []struct{ gen, want int }{
		{0, 1},
		{1, 2},
		{2, 3},
		{999, 1000},
		{last - 2, last - 1},
		{last - 1, last},
		{last, 1},
		{last + 1, 1},
		{1 << 32, 1},
		{math.MaxInt, 1},
		{-1, 1},
		{-2, 1},
		{-last, 1},
		{math.MinInt, 1},
	}
	for _, x := range table {
		if got := ident.Next(x.gen); got != x.want {
			t.Errorf("Next(%d) = %d, want %d", x.gen, got, x.want)
		}
	}
}
