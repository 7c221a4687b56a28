package mode_test

import (
	"math"
	"slices"
	"testing"

	"clusterlocks/api"
	"clusterlocks/mode"
)

// modes are all modes, ascending.
var modes = []int{api.IS, api.IX, api.S, api.SIX, api.X}

// notModes are numbers beside the modes, and numbers that would become modes if they were cut to fewer bits.
var notModes = []int{
	0, -1, -2, -5, 6, 7, 10, 99, 1<<8 + 1, -1<<8 + 3, 1<<16 + 2, 1<<32 + 5, -1<<32 + 4,
	math.MinInt, math.MinInt + 1, math.MinInt + 5, math.MaxInt, math.MaxInt - 1,
}

// everyNumber is modes and notModes together.
func everyNumber() []int {
	return slices.Concat(modes, notModes)
}

// friends are the modes that each mode is compatible with, as the chapter's table has them.
var friends = map[int][]int{
	api.IS:  {api.IS, api.IX, api.S, api.SIX},
	api.IX:  {api.IS, api.IX},
	api.S:   {api.IS, api.S},
	api.SIX: {api.IS},
	api.X:   {},
}

// covered are the modes that each mode covers.
var covered = map[int][]int{
	api.IS:  {api.IS},
	api.IX:  {api.IS, api.IX},
	api.S:   {api.IS, api.S},
	api.SIX: {api.IS, api.IX, api.S, api.SIX},
	api.X:   {api.IS, api.IX, api.S, api.SIX, api.X},
}

// P3.1: the modes are the numbers from 1 to 5.
func TestValid(t *testing.T) {
	for _, m := range modes {
		if !mode.Valid(m) {
			t.Errorf("Valid(%d) = false", m)
		}
	}
	for _, m := range notModes {
		if mode.Valid(m) {
			t.Errorf("Valid(%d) = true", m)
		}
	}
}

// P3.1: Compatible is the chapter's table, and false where an argument is not a mode.
func TestCompatible(t *testing.T) {
	for _, a := range everyNumber() {
		for _, b := range everyNumber() {
			want := slices.Contains(friends[a], b)
			if got := mode.Compatible(a, b); got != want {
				t.Errorf("Compatible(%d, %d) = %t", a, b, got)
			}
			if mode.Compatible(b, a) != want {
				t.Errorf("Compatible(%d, %d) = %t, unlike the other way round", b, a, !want)
			}
		}
	}
}

// P3.1: Covers holds of a mode and of the weaker ones, and is false where an argument is not a mode.
func TestCovers(t *testing.T) {
	for _, a := range everyNumber() {
		for _, b := range everyNumber() {
			want := slices.Contains(covered[a], b)
			if got := mode.Covers(a, b); got != want {
				t.Errorf("Covers(%d, %d) = %t", a, b, got)
			}
		}
	}
}

// Consequences: Covers is a partial order.
func TestCoversIsPartialOrder(t *testing.T) {
	for _, a := range modes {
		if !mode.Covers(a, a) {
			t.Errorf("%d does not cover itself", a)
		}
		for _, b := range modes {
			if a != b && mode.Covers(a, b) && mode.Covers(b, a) {
				t.Errorf("%d and %d cover each other", a, b)
			}
			for _, c := range modes {
				if mode.Covers(a, b) && mode.Covers(b, c) && !mode.Covers(a, c) {
					t.Errorf("%d covers %d, which covers %d, which %d does not", a, b, c, a)
				}
			}
		}
	}
}

// Consequences: a stronger mode is compatible with fewer modes.
func TestStrongerIsLessCompatible(t *testing.T) {
	for _, a := range modes {
		for _, b := range modes {
			if a == b || !mode.Covers(a, b) {
				continue
			}
			if len(mode.Conflicts(a)) <= len(mode.Conflicts(b)) {
				t.Errorf("%d is stronger than %d, and conflicts with no more modes", a, b)
			}
			for _, c := range modes {
				if mode.Compatible(a, c) && !mode.Compatible(b, c) {
					t.Errorf("%d is compatible with %d, but %d is not", a, c, b)
				}
			}
		}
	}
}

// P3.3: Conflicts lists the modes that are not compatible, ascending.
func TestConflicts(t *testing.T) {
	want := map[int][]int{
		api.IS:  {api.X},
		api.IX:  {api.S, api.SIX, api.X},
		api.S:   {api.IX, api.SIX, api.X},
		api.SIX: {api.IX, api.S, api.SIX, api.X},
		api.X:   {api.IS, api.IX, api.S, api.SIX, api.X},
	}
	for _, m := range everyNumber() {
		if got := mode.Conflicts(m); !slices.Equal(got, want[m]) {
			t.Errorf("Conflicts(%d) = %v, want %v", m, got, want[m])
		}
	}
}

// R2: the results of Conflicts share no memory with one another.
func TestConflictsAreNew(t *testing.T) {
	for _, m := range modes {
		first, second := mode.Conflicts(m), mode.Conflicts(m)
		want := slices.Clone(first)
		clear(second[:cap(second)])
		if !slices.Equal(first, want) || !slices.Equal(mode.Conflicts(m), want) {
			t.Errorf("Conflicts(%d): results share memory", m)
		}
	}
}
