package ident_test

import (
	"math"
	"slices"
	"testing"

	"clusterlocks/api"
	"clusterlocks/ident"
)

func proc(site, inc, num int) api.Proc {
	return api.Proc{Site: site, Inc: inc, Num: num}
}

// validProcs are valid processes at the edges of their limits and of their numbers of digits and bytes, in ascending order.
func validProcs() []api.Proc {
	var out []api.Proc
	for _, site := range []int{0, 1, 2, 3} {
		for _, inc := range []int{1, 2, 9, 10, 11, 98, 99} {
			for _, num := range []int{1, 2, 9, 10, 99, 100, 127, 128, 998, 999} {
				out = append(out, proc(site, inc, num))
			}
		}
	}
	return out
}

// invalidProcs have one number at least that is out of its limits.
func invalidProcs() []api.Proc {
	out := []api.Proc{proc(0, 0, 0), proc(-1, -1, -1), proc(4, 100, 1000)}
	for _, site := range []int{-1, 4, 5, 10, 99, 1 << 8, 1 << 32, math.MinInt, math.MaxInt} {
		out = append(out, proc(site, 1, 1))
	}
	for _, inc := range []int{-1, 0, 100, 101, 1 << 8, 1<<32 + 1, math.MinInt, math.MaxInt} {
		out = append(out, proc(0, inc, 1))
	}
	for _, num := range []int{-1, 0, 1000, 1001, 1<<16 + 1, 1<<32 + 1, math.MinInt, math.MaxInt} {
		out = append(out, proc(0, 1, num))
	}
	return out
}

// P2.1: a process is valid if each of its numbers is within its limits.
func TestValidProc(t *testing.T) {
	for _, p := range validProcs() {
		if !ident.ValidProc(p) {
			t.Errorf("ValidProc(%v) = false", p)
		}
	}
	for _, p := range invalidProcs() {
		if ident.ValidProc(p) {
			t.Errorf("ValidProc(%v) = true", p)
		}
	}
}

// sign returns the order of two places of an ascending list.
func sign(i, j int) int {
	switch {
	case i < j:
		return -1
	case i > j:
		return 1
	}
	return 0
}

// anyNumbers are numbers in ascending order whose differences do not all fit an int.
var anyNumbers = []int{math.MinInt, math.MinInt + 1, -7, -1, 0, 1, 2, 1 << 33, math.MaxInt - 1, math.MaxInt}

// P2.1, Consequences: CompareProc orders all values totally, by Site, then Inc, then Num.
func TestCompareProc(t *testing.T) {
	var ascending []api.Proc
	for _, site := range anyNumbers {
		for _, inc := range anyNumbers {
			for _, num := range anyNumbers {
				ascending = append(ascending, proc(site, inc, num))
			}
		}
	}
	for _, l := range [][]api.Proc{ascending, validProcs()} {
		for i, p := range l {
			for j, q := range l {
				if got := ident.CompareProc(p, q); got != sign(i, j) {
					t.Fatalf("CompareProc(%v, %v) = %d, want %d", p, q, got, sign(i, j))
				}
			}
		}
	}
}

// P2.3: SortProcs returns each process once, in ascending order.
func TestSortProcs(t *testing.T) {
	a, b, c, d := proc(0, 1, 9), proc(0, 2, 1), proc(1, 1, 1), proc(1, 1, 2)
	table := []struct{ l, want []api.Proc }{
		{nil, nil},
		{[]api.Proc{}, nil},
		{[]api.Proc{b}, []api.Proc{b}},
		{[]api.Proc{a, a, a}, []api.Proc{a}},
		{[]api.Proc{a, b, c, d}, []api.Proc{a, b, c, d}},
		{[]api.Proc{d, c, b, a}, []api.Proc{a, b, c, d}},
		{[]api.Proc{c, b, c, a}, []api.Proc{a, b, c}},
		{[]api.Proc{d, a, d, a, b, b, d}, []api.Proc{a, b, d}},
		{[]api.Proc{c, {}, proc(-1, 5, 5), c, proc(9, 0, 0), {}}, []api.Proc{proc(-1, 5, 5), {}, c, proc(9, 0, 0)}},
	}
	for _, x := range table {
		if got := ident.SortProcs(x.l); !slices.Equal(got, x.want) {
			t.Errorf("SortProcs(%v) = %v, want %v", x.l, got, x.want)
		}
	}
}

// P2.3: SortProcs of a long list, in whatever order and however often a process is in it.
func TestSortProcsLong(t *testing.T) {
	want := validProcs()
	var l []api.Proc
	for i := range 3 * len(want) {
		// 89 and the length of the list have no common factor, so that each process is met three times.
		l = append(l, want[i*89%len(want)])
	}
	if got := ident.SortProcs(l); !slices.Equal(got, want) {
		t.Errorf("SortProcs of %d processes: %d of them, want %d", len(l), len(got), len(want))
	}
	slices.Reverse(want)
	if got := ident.SortProcs(want); !slices.IsSortedFunc(got, ident.CompareProc) || len(got) != len(want) {
		t.Errorf("SortProcs of a descending list: %v", got)
	}
}

// P2.3: HasProc finds a process anywhere in a list that has no order.
func TestHasProc(t *testing.T) {
	l := []api.Proc{proc(3, 1, 1), proc(0, 2, 1), proc(1, 1, 1), proc(1, 1, 1), proc(-1, 0, 0), proc(0, 1, 9)}
	for i, p := range l {
		if !ident.HasProc(l, p) {
			t.Errorf("HasProc does not find element %d", i)
		}
		if ident.HasProc(l[:i], p) != (i == 3) {
			t.Errorf("HasProc of the first %d elements", i)
		}
	}
	for _, p := range []api.Proc{{}, proc(3, 1, 2), proc(3, 2, 1), proc(2, 1, 1), proc(0, 2, 9)} {
		if ident.HasProc(l, p) {
			t.Errorf("HasProc finds %v", p)
		}
	}
	if ident.HasProc(nil, proc(0, 1, 1)) || ident.HasProc([]api.Proc{}, api.Proc{}) {
		t.Error("HasProc finds a process in an empty list")
	}
}
