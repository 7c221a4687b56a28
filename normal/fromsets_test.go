package normal_test

import (
	"math"
	"runtime"
	"slices"
	"strings"
	"testing"

	"clusterlocks/api"
	"clusterlocks/normal"
	"clusterlocks/request"
)

// setsOf returns the lists of indices that s writes as show does.
func setsOf(s string) [][]int {
	var out [][]int
	for _, word := range strings.Fields(s) {
		var set []int
		for _, c := range word {
			set = append(set, int(c-'0'))
		}
		out = append(out, set)
	}
	return out
}

// wantFrom reports it if the atoms and sets do not make this expression.
func wantFrom(t *testing.T, atoms []api.Atom, sets [][]int, want api.Expr) {
	t.Helper()
	got, ok := normal.FromSets(atoms, sets)
	if !ok || !same(got, want) {
		t.Errorf("FromSets(%v, %v) = %s, %t, %+v, want %s", atoms, sets, request.FormatExpr(got), ok, got, request.FormatExpr(want))
	}
}

// wantNone reports it if the atoms and sets make an expression.
func wantNone(t *testing.T, what string, atoms []api.Atom, sets [][]int) {
	t.Helper()
	got, ok := normal.FromSets(atoms, sets)
	if ok || !same(got, api.Expr{}) {
		t.Errorf("FromSets, %s, = %s, %t, %+v", what, request.FormatExpr(got), ok, got)
	}
}

// P9.5: a group for each set, of an atom for each index, both in the order given.
func TestFromSets(t *testing.T) {
	atoms := atomsOf([]api.Expr{lock("a", api.S), pool("p", 2), lock("c", api.X)})
	for text, want := range map[string]string{
		"0":               "any(all(a:S))",
		"1":               "any(all(p*2))",
		"012":             "any(all(a:S, p*2, c:X))",
		"2 01":            "any(all(c:X), all(a:S, p*2))",
		"01 2":            "any(all(a:S, p*2), all(c:X))",
		"10 02":           "any(all(p*2, a:S), all(a:S, c:X))",
		"101":             "any(all(p*2, a:S, p*2))",
		"00 0":            "any(all(a:S, a:S), all(a:S))",
		"1 1 1":           "any(all(p*2), all(p*2), all(p*2))",
		"21 12 210 012":   "any(all(c:X, p*2), all(p*2, c:X), all(c:X, p*2, a:S), all(a:S, p*2, c:X))",
		"0 01 012":        "any(all(a:S), all(a:S, p*2), all(a:S, p*2, c:X))",
		"2 2 1 1 0 0 1 2": "any(all(c:X), all(c:X), all(p*2), all(p*2), all(a:S), all(a:S), all(p*2), all(c:X))",
	} {
		wantFrom(t, atoms, setsOf(text), expr(t, want))
	}
}

// P9.5: as many nodes as a valid expression may have, and one more, in one set to eleven.
func TestFromSetsAtTheLimit(t *testing.T) {
	b := pool("b", 2)
	for n := 1; n <= 11; n++ {
		for long := range n {
			// The nodes are one for all, one for each set, and one for each index.
			sets := make([][]int, n)
			var kids []api.Expr
			for i := range sets {
				sets[i] = make([]int, 1)
				if i == long {
					sets[i] = make([]int, api.MaxNodes-2*n)
				}
				kids = append(kids, all(slices.Repeat([]api.Expr{b}, len(sets[i]))...))
			}
			wantFrom(t, atomsOf([]api.Expr{b}), sets, group(1, kids...))
			for i := range sets {
				more := slices.Clone(sets)
				more[i] = make([]int, len(sets[i])+1)
				wantNone(t, "one index too many", atomsOf([]api.Expr{b}), more)
			}
			wantNone(t, "one set too many", atomsOf([]api.Expr{b}), append(sets, []int{0}))
		}
	}
	for _, n := range []int{12, 22, 23, 24, 25, 1000} {
		wantNone(t, "too many sets", atomsOf([]api.Expr{b}), slices.Repeat([][]int{{0}}, n))
	}
}

// P9.5, R1: lists that are much too long are refused soon, and without as many nodes being made.
func TestFromLongSets(t *testing.T) {
	atoms, long := atomsOf(letters(8)), make([]int, 1<<20)
	for _, sets := range [][][]int{{long}, {{0}, long}, slices.Repeat([][]int{{0}}, 1<<20), make([][]int, 1<<20), slices.Repeat([][]int{long}, 1<<20)} {
		var before, after runtime.MemStats
		runtime.ReadMemStats(&before)
		wantNone(t, "long lists", atoms, sets)
		runtime.ReadMemStats(&after)
		if used := after.TotalAlloc - before.TotalAlloc; used > 1<<20 {
			t.Errorf("FromSets of %d sets used %d bytes", len(sets), used)
		}
	}
}

// P9.5: no sets, and sets without an element, make groups without kids.
func TestFromNoSets(t *testing.T) {
	atoms := atomsOf(letters(3))
	wantNone(t, "nil", atoms, nil)
	wantNone(t, "no sets", atoms, [][]int{})
	wantNone(t, "no sets and no atoms", nil, nil)
	for _, empty := range [][]int{nil, {}} {
		for _, sets := range [][][]int{{empty}, {empty, {0}}, {{0}, empty}, {{0}, empty, {1, 2}}, {empty, empty}} {
			wantNone(t, "an empty set", atoms, sets)
		}
	}
}

// P9.5: each index must be one of atoms, wherever it stands.
func TestFromWrongIndices(t *testing.T) {
	for n := range 9 {
		for _, wrong := range []int{n, n + 1, -1, -2, 1 << 32, 1<<32 + 1, -1 << 32, math.MaxInt, math.MinInt} {
			for _, sets := range [][][]int{{{wrong}}, {{0, wrong}}, {{wrong, 0}}, {{0}, {wrong}}, {{wrong}, {0}}, {{0}, {0, wrong, 0}, {0}}} {
				wantNone(t, "a wrong index", atomsOf(letters(n)), sets)
			}
		}
		if n > 0 {
			wantFrom(t, atomsOf(letters(n)), [][]int{{0}, {n - 1, 0}}, group(1, all(letters(1)...), all(letters(n)[n-1], letters(1)[0])))
		}
	}
}

// P9.5: the atoms that are used must go together in a valid expression; the others may be anything.
func TestFromWrongAtoms(t *testing.T) {
	a, b := lock("a", api.S), pool("b", 2)
	wrong := []api.Expr{{}, lock("", api.S), lock("all", api.S), lock("A", api.S), lock("abcdefghijklm", api.S), lock("c", 0), lock("c", 6), lock("c", -1), pool("c", 9), pool("c", -1), {Atom: api.Atom{Name: "c", Amount: api.Amount{Mode: 1, Units: 1}}}}
	for _, w := range slices.Concat(wrong, []api.Expr{lock("a", api.X), lock("a", api.IS), pool("a", 1), lock("b", api.S), pool("b", 1)}) {
		for i := range 3 {
			// The wrong one is the atom i, the next one is a, and then comes b.
			atoms := make([]api.Atom, 3)
			atoms[i], atoms[(i+1)%3], atoms[(i+2)%3] = w.Atom, a.Atom, b.Atom
			ia, ib := (i+1)%3, (i+2)%3
			wantFrom(t, atoms, [][]int{{ia}}, group(1, all(a)))
			wantFrom(t, atoms, [][]int{{ib, ia}, {ib}}, group(1, all(b, a), all(b)))
			for _, sets := range [][][]int{{{0, 1, 2}}, {{0}, {1}, {2}}, {{2, 0}, {1}}, {{ia, ib}, {ia, i}, {ib}}} {
				wantNone(t, "a wrong atom", atoms, sets)
			}
		}
	}
	for _, w := range wrong {
		wantNone(t, "only a wrong atom", atomsOf([]api.Expr{w}), [][]int{{0}})
	}
	// Each of two atoms that do not go together may stand alone.
	atoms := atomsOf([]api.Expr{a, lock("a", api.X)})
	wantFrom(t, atoms, [][]int{{0}, {0, 0}}, group(1, all(a), all(a, a)))
	wantFrom(t, atoms, [][]int{{1}}, group(1, all(lock("a", api.X))))
}

// P9.5: at most eight different atoms may be used, of any number; two indices may mean the same one.
func TestFromManyAtoms(t *testing.T) {
	nine := letters(9)
	wantNone(t, "nine atoms", atomsOf(nine), [][]int{{0, 1, 2, 3, 4, 5, 6, 7, 8}})
	wantNone(t, "nine atoms in two sets", atomsOf(nine), [][]int{{8, 1, 2, 3}, {4, 5, 6, 7, 0}})
	for out := range nine {
		rest := slices.Concat(nine[:out], nine[out+1:])
		var set []int
		for i := range nine {
			if i != out {
				set = append(set, i)
			}
		}
		wantFrom(t, atomsOf(nine), [][]int{set}, group(1, all(rest...)))
		wantFrom(t, atomsOf(nine), [][]int{set[:3], set[3:]}, group(1, all(rest[:3]...), all(rest[3:]...)))
	}
	many := slices.Repeat(atomsOf(letters(8)), 100)
	wantFrom(t, many, [][]int{{0, 799, 8}, {407}}, group(1, all(nine[0], nine[7], nine[0]), all(nine[7])))
}
