package mode_test

import (
	"slices"
	"testing"

	"clusterlocks/api"
	"clusterlocks/mode"
)

// P3.2: Sup of every two modes, and 0 where an argument is not a mode.
func TestSup(t *testing.T) {
	want := map[[2]int]int{}
	for i, row := range [][]int{
		{api.IS, api.IX, api.S, api.SIX, api.X},
		{api.IX, api.IX, api.SIX, api.SIX, api.X},
		{api.S, api.SIX, api.S, api.SIX, api.X},
		{api.SIX, api.SIX, api.SIX, api.SIX, api.X},
		{api.X, api.X, api.X, api.X, api.X},
	} {
		for j, m := range row {
			want[[2]int{modes[i], modes[j]}] = m
		}
	}
	for _, a := range everyNumber() {
		for _, b := range everyNumber() {
			if got := mode.Sup(a, b); got != want[[2]int{a, b}] {
				t.Errorf("Sup(%d, %d) = %d, want %d", a, b, got, want[[2]int{a, b}])
			}
		}
	}
}

// P3.2, Consequences: Sup is the least upper bound of two modes.
func TestSupIsLeastUpperBound(t *testing.T) {
	for _, a := range modes {
		for _, b := range modes {
			sup := mode.Sup(a, b)
			if !mode.Covers(sup, a) || !mode.Covers(sup, b) {
				t.Errorf("Sup(%d, %d) = %d does not cover both", a, b, sup)
			}
			for _, m := range modes {
				if mode.Covers(m, a) && mode.Covers(m, b) && !mode.Covers(m, sup) {
					t.Errorf("Sup(%d, %d) = %d, but %d covers both", a, b, sup, m)
				}
			}
		}
	}
}

// Consequences: Sup is commutative, associative and idempotent.
func TestSupLaws(t *testing.T) {
	for _, a := range modes {
		if got := mode.Sup(a, a); got != a {
			t.Errorf("Sup(%d, %d) = %d", a, a, got)
		}
		for _, b := range modes {
			if mode.Sup(a, b) != mode.Sup(b, a) {
				t.Errorf("Sup(%d, %d) is not Sup(%d, %d)", a, b, b, a)
			}
			for _, c := range modes {
				if mode.Sup(a, mode.Sup(b, c)) != mode.Sup(mode.Sup(a, b), c) {
					t.Errorf("Sup is not associative for %d, %d, %d", a, b, c)
				}
			}
		}
	}
}

// P3.2: Group of ordinary lists, of no modes, of one, and of many.
func TestGroup(t *testing.T) {
	table := []struct {
		l    []int
		want int
	}{
		{nil, 0},
		{[]int{}, 0},
		{[]int{api.IS, api.IS}, api.IS},
		{[]int{api.IS, api.IX}, api.IX},
		{[]int{api.S, api.IS}, api.S},
		{[]int{api.IX, api.S}, api.SIX},
		{[]int{api.S, api.IX}, api.SIX},
		{[]int{api.IS, api.S, api.IS, api.IX}, api.SIX},
		{[]int{api.IX, api.SIX, api.S}, api.SIX},
		{[]int{api.X, api.IS}, api.X},
		{[]int{api.IS, api.IX, api.S, api.SIX, api.X}, api.X},
		{slices.Repeat([]int{api.IS}, 5000), api.IS},
		{append(slices.Repeat([]int{api.IX}, 5000), api.S), api.SIX},
		{append([]int{api.X}, slices.Repeat([]int{api.IS}, 5000)...), api.X},
	}
	for _, x := range table {
		if got := mode.Group(x.l); got != x.want {
			t.Errorf("Group of %d modes = %d, want %d", len(x.l), got, x.want)
		}
	}
	for _, m := range modes {
		if got := mode.Group([]int{m}); got != m {
			t.Errorf("Group of %d alone = %d", m, got)
		}
	}
}

// P3.2: Group is 0 wherever in the list a number stands that is not a mode.
func TestGroupRefuses(t *testing.T) {
	for _, bad := range notModes {
		for _, l := range [][]int{{bad}, {bad, bad}} {
			if got := mode.Group(l); got != 0 {
				t.Errorf("Group(%v) = %d", l, got)
			}
		}
		for _, m := range modes {
			for _, l := range [][]int{{bad, m}, {m, bad}, {m, bad, m}, {bad, m, bad}, {m, m, m, bad}, {bad, m, m, m}} {
				if got := mode.Group(l); got != 0 {
					t.Errorf("Group(%v) = %d", l, got)
				}
			}
		}
	}
}

// lists returns all lists of one to four modes.
func lists() [][]int {
	var out [][]int
	ends := [][]int{nil}
	for range 4 {
		var longer [][]int
		for _, l := range ends {
			for _, m := range modes {
				longer = append(longer, append(slices.Clone(l), m))
			}
		}
		out = append(out, longer...)
		ends = longer
	}
	return out
}

// P3.2: Group is the weakest mode that covers all modes of a list.
func TestGroupIsWeakest(t *testing.T) {
	for _, l := range lists() {
		group := mode.Group(l)
		for _, m := range modes {
			coversAll := !slices.ContainsFunc(l, func(n int) bool { return !slices.Contains(covered[m], n) })
			if coversAll != slices.Contains(covered[m], group) {
				t.Errorf("Group(%v) = %d; that %d covers all is %t", l, group, m, coversAll)
			}
		}
	}
}

// Consequences: a mode is compatible with all modes of a list exactly if it is compatible with their Group.
func TestGroupStandsForItsList(t *testing.T) {
	for _, l := range lists() {
		group := mode.Group(l)
		for _, m := range everyNumber() {
			withAll := !slices.ContainsFunc(l, func(n int) bool { return !mode.Compatible(m, n) })
			if mode.Compatible(m, group) != withAll {
				t.Errorf("Compatible(%d, Group(%v)) = %t", m, l, !withAll)
			}
		}
	}
}

// R2: Group neither changes its argument nor reads what lies behind its length.
func TestGroupKeepsToItsList(t *testing.T) {
	room := []int{api.IX, api.IS, api.S, 0, api.X}
	was := slices.Clone(room)
	for i, want := range []int{0, api.IX, api.IX, api.SIX, 0} {
		if got := mode.Group(room[:i]); got != want {
			t.Errorf("Group of the first %d of %v = %d, want %d", i, room, got, want)
		}
		if !slices.Equal(room, was) {
			t.Errorf("Group changed its argument: %v", room)
		}
	}
}
