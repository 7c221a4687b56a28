package normal_test

import (
	"math/rand"
	"slices"
	"testing"

	"clusterlocks/api"
	"clusterlocks/normal"
	"clusterlocks/request"
)

// wantImplies reports it if the answers for a and b are not that each of them implies the other one or not.
func wantImplies(t *testing.T, a, b api.Expr, forth, back bool) {
	t.Helper()
	for _, x := range []struct {
		a, b api.Expr
		want bool
	}{{a, b, forth}, {b, a, back}} {
		if got := normal.Implies(x.a, x.b); got != x.want {
			t.Errorf("Implies(%s, %s) = %t", request.FormatExpr(x.a), request.FormatExpr(x.b), got)
		}
		if got := normal.Equivalent(x.a, x.b); got != (forth && back) {
			t.Errorf("Equivalent(%s, %s) = %t", request.FormatExpr(x.a), request.FormatExpr(x.b), got)
		}
	}
}

// P9.3: ordinary expressions that imply each other, or only one the other one, or neither.
func TestImplies(t *testing.T) {
	for _, x := range []struct {
		a, b        string
		forth, back bool
	}{
		{"a:S", "a:S", true, true},
		{"a:S", "b:S", false, false},
		{"a:S", "any(a:S, all(a:S, a:S))", true, true},
		{"all(a:S, b:S)", "a:S", true, false},
		{"all(a:S, b:S)", "b:S", true, false},
		{"a:S", "any(a:S, z*2)", true, false},
		{"a:S", "any(z*2, a:S)", true, false},
		{"all(a:S, b:S)", "any(a:S, b:S)", true, false},
		{"any(a:S, b:S)", "any(b:S, c:S)", false, false},
		{"all(a:S, b:S)", "all(b:S, c:S)", false, false},
		{"all(a:S, b:S)", "any(b:S, c:S)", true, false},
		{"all(a:S, b:S)", "any(c:S, d:S)", false, false},
		{"all(a:S, c:S)", "any(all(a:S, b:S), c:S)", true, false},
		{"2 of (a:S, b:S, c:S)", "any(all(b:S, a:S), all(a:S, c:S), all(c:S, b:S))", true, true},
		{"2 of (a:S, b:S, c:S)", "all(any(b:S, a:S), any(a:S, c:S), any(c:S, b:S))", true, true},
		{"2 of (a:S, b:S, c:S)", "any(all(b:S, a:S), all(a:S, c:S))", false, true},
		{"2 of (a:S, b:S, b:S)", "b:S", true, true},
		{"all(a:S, any(b:S, c:S))", "any(all(a:S, b:S), all(a:S, c:S))", true, true},
		{"any(a:S, all(b:S, c:S))", "all(any(a:S, b:S), any(a:S, c:S))", true, true},
		{"any(a:S, all(b:S, c:S))", "any(a:S, b:S)", true, false},
		// Atoms, and not their indices, are what counts.
		{"all(a:S, b:S)", "all(b:S, a:S)", true, true},
		{"any(b:S, a:S)", "any(a:S, all(b:S, b:S))", true, true},
		{"any(all(a:S, b:S), c:S)", "any(c:S, all(b:S, a:S))", true, true},
		{"any(all(a:S, b:S), c:S)", "any(all(b:S, c:S), a:S)", false, false},
		{"all(a:S, any(b:S, c:S))", "all(c:S, any(b:S, a:S))", false, false},
		// Different amounts of one resource are different atoms: none of them implies the other one.
		{"a:S", "a:X", false, false},
		{"a:X", "a:IS", false, false},
		{"p*2", "p*1", false, false},
		{"a:S", "a*1", false, false},
		{"all(a:X, b:S)", "any(b:S, a:S)", true, false},
		{"any(a:X, b:S)", "any(b:S, a:S)", false, false},
	} {
		wantImplies(t, expr(t, x.a), expr(t, x.b), x.forth, x.back)
	}
}

// P9.3: "j of n" implies "k of n" if j is not less than k, whatever the order of the atoms.
func TestImpliesOfThresholds(t *testing.T) {
	for n := 1; n <= 8; n++ {
		reversed := letters(n)
		slices.Reverse(reversed)
		for j := 1; j <= n; j++ {
			for k := 1; k <= n; k++ {
				wantImplies(t, group(j, letters(n)...), group(k, reversed...), j >= k, k >= j)
			}
		}
	}
}

// P9.3: expressions that have up to sixteen atoms together.
func TestImpliesOfManyAtoms(t *testing.T) {
	left, right := letters(8), []api.Expr{lock("s", 1), lock("t", 2), lock("u", 3), lock("v", 4), lock("w", 5), pool("x", 6), pool("y", 7), pool("z", 8)}
	wantImplies(t, all(left...), group(1, right...), false, false)
	for common := range 8 {
		// The common atoms are the last ones of one expression and the first ones of the other one.
		other := slices.Concat(left[8-common:], right[common:])
		wantImplies(t, all(left...), group(1, other...), common > 0, false)
		wantImplies(t, all(left...), group(max(1, common), other...), common > 0, false)
		wantImplies(t, all(left...), group(common+1, other...), false, false)
		wantImplies(t, group(9-max(1, common), left...), group(1, other...), common > 0, false)
		wantImplies(t, group(max(1, 8-common), left...), group(1, other...), false, false)
	}
}

// within reports whether b holds for every set of the atoms of both for which a holds, by their truth tables.
func within(a, b api.Expr) bool {
	atoms := meant(group(1, a, b))
	inB := truth(b, atoms)
	for n, holds := range truth(a, atoms) {
		if holds && !inB[n] {
			return false
		}
	}
	return true
}

// P9.3: random expressions, compared with truth tables over the atoms of both.
func TestImpliesOfMany(t *testing.T) {
	random := rand.New(rand.NewSource(4))
	counts := map[[2]bool]int{}
	for i := range 6000 {
		n := 1 + random.Intn(4)
		ours, theirs := letters(n), letters(n)
		if i%3 == 0 {
			theirs[random.Intn(n)].Atom.Amount = api.Amount{Mode: api.IX}
		}
		random.Shuffle(n, func(i, j int) { theirs[i], theirs[j] = theirs[j], theirs[i] })
		a, b := randomExpr(random, 1+random.Intn(9), 4, picker(random, ours)), randomExpr(random, 1+random.Intn(9), 4, picker(random, theirs))
		forth, back := within(a, b), within(b, a)
		wantImplies(t, a, b, forth, back)
		counts[[2]bool{forth, back}]++
	}
	for kind, count := range counts {
		if len(counts) != 4 || count < 300 {
			t.Errorf("only %d pairs %v", count, kind)
		}
	}
}

// P9.3: an expression that is not valid implies none, and is implied by none, nor is it equivalent to one, also if this is itself.
func TestImpliesOfWrongOnes(t *testing.T) {
	for _, wrong := range wrongOnes() {
		for _, e := range []api.Expr{lock("a", api.S), pool("b", 2), group(1, letters(8)...), all(letters(8)...), {}, wrong} {
			wantImplies(t, wrong, e, false, false)
		}
	}
}
