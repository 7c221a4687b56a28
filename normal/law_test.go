package normal_test

import (
	"testing"

	"clusterlocks/api"
	"clusterlocks/formula"
	"clusterlocks/normal"
	"clusterlocks/request"
)

// Consequences: Simplify returns an equivalent expression that is not larger nor deeper, and returns its own results unchanged.
func TestSimplifyKeepsTheMeaning(t *testing.T) {
	for _, e := range samples(6, 2400) {
		simple := normal.Simplify(e)
		if !within(e, simple) || !within(simple, e) || request.Nodes(simple) > request.Nodes(e) || request.Depth(simple) > request.Depth(e) {
			t.Errorf("Simplify(%s) = %s", request.FormatExpr(e), request.FormatExpr(simple))
		}
		if request.Nodes(e) <= 12 && !normal.Equivalent(e, simple) {
			t.Errorf("Equivalent(%s, %s) = false", request.FormatExpr(e), request.FormatExpr(simple))
		}
		wantSimple(t, simple, simple)
	}
}

// Consequences: the dual of the dual is the expression, and what blocks it are the minimal sets of the dual.
func TestDualOfDual(t *testing.T) {
	for _, e := range samples(7, 960) {
		dual := normal.Dual(e)
		wantExpr(t, "Dual(Dual)", normal.Dual(dual), e)
		wantSets(t, dual, show(normal.Blocking(e)), show(normal.Minimal(e)))
	}
}

// Consequences: FromSets of the atoms and the minimal sets is equivalent to the expression, if it is valid, which it is if it has not too many nodes.
func TestFromMinimalSets(t *testing.T) {
	list := samples(8, 960)
	for n := 1; n <= 8; n++ {
		for k := 1; k <= n; k++ {
			list = append(list, group(k, letters(n)...))
		}
	}
	tooMany := 0
	for _, e := range list {
		atoms, sets := formula.Atoms(e), normal.Minimal(e)
		nodes := 1
		for _, set := range sets {
			nodes += 1 + len(set)
		}
		if nodes > api.MaxNodes {
			wantNone(t, "too many nodes", atoms, sets)
			tooMany++
			continue
		}
		got, ok := normal.FromSets(atoms, sets)
		if !ok || !within(e, got) || !within(got, e) || !normal.Equivalent(e, got) || request.Nodes(got) != nodes {
			t.Errorf("FromSets of the minimal sets of %s = %s, %t", request.FormatExpr(e), request.FormatExpr(got), ok)
		}
	}
	if tooMany < 50 || tooMany > 500 {
		t.Errorf("%d of %d expressions have too many nodes", tooMany, len(list))
	}
}

// P9.1, P9.2, P9.4: the chapter's examples.
func TestExamples(t *testing.T) {
	wantSets(t, expr(t, "2 of (a:S, b:S, c:S)"), "01 02 12", "01 02 12")
	wantExpr(t, "Dual", normal.Dual(expr(t, "all(a:S, b:S)")), expr(t, "any(a:S, b:S)"))
	wantSimple(t, expr(t, "any(a:S, any(b:S, a:S))"), expr(t, "any(a:S, b:S)"))
}
