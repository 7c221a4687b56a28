package amount_test

import (
	"slices"
	"testing"

	"clusterlocks/amount"
	"clusterlocks/api"
)

// covered are the modes that each mode covers.
var covered = map[int][]int{
	api.IS:  {api.IS},
	api.IX:  {api.IS, api.IX},
	api.S:   {api.IS, api.S},
	api.SIX: {api.IS, api.IX, api.S, api.SIX},
	api.X:   {api.IS, api.IX, api.S, api.SIX, api.X},
}

// holdsAsWell says whether whoever holds a holds b as well; both are permitted.
func holdsAsWell(a, b api.Amount) bool {
	switch {
	case b == u(0):
		return true
	case b.Mode != 0:
		return slices.Contains(covered[a.Mode], b.Mode)
	}
	return a.Units >= b.Units
}

// P4.2: Covers of all amounts that are permitted.
func TestCovers(t *testing.T) {
	for _, r := range shaped() {
		for _, a := range permitted(r) {
			for _, b := range permitted(r) {
				if got := amount.Covers(r, a, b); got != holdsAsWell(a, b) {
					t.Errorf("Covers(%+v, %+v, %+v) = %t", r, a, b, got)
				}
			}
		}
	}
}

// P4.2: a zero amount is covered by each permitted amount, and covers only itself.
func TestCoversZero(t *testing.T) {
	for _, r := range shaped() {
		for _, a := range fitting(r) {
			if !amount.Covers(r, a, u(0)) {
				t.Errorf("%+v of %+v does not cover zero", a, r)
			}
			if amount.Covers(r, u(0), a) {
				t.Errorf("zero covers %+v of %+v", a, r)
			}
		}
		if !amount.Covers(r, u(0), u(0)) {
			t.Errorf("zero of %+v does not cover itself", r)
		}
	}
}

// joinTable has the joins of the modes in the order of their numbers, by row and column.
var joinTable = [5][5]int{
	{api.IS, api.IX, api.S, api.SIX, api.X},
	{api.IX, api.IX, api.SIX, api.SIX, api.X},
	{api.S, api.SIX, api.S, api.SIX, api.X},
	{api.SIX, api.SIX, api.SIX, api.SIX, api.X},
	{api.X, api.X, api.X, api.X, api.X},
}

// P4.2: Join of modes is Sup, and of a mode and zero the mode.
func TestJoinOfModes(t *testing.T) {
	for i, row := range joinTable {
		a := m(api.IS + i)
		for j, mode := range row {
			b := m(api.IS + j)
			if got := amount.Join(lock, a, b); got != m(mode) {
				t.Errorf("Join(lock, %+v, %+v) = %+v", a, b, got)
			}
		}
		if amount.Join(lock, a, m(0)) != a || amount.Join(lock, m(0), a) != a {
			t.Errorf("Join of %+v and zero", a)
		}
	}
	if amount.Join(lock, m(0), m(0)) != m(0) {
		t.Error("Join of zeros")
	}
}

// P4.2: Join of units is the greater number.
func TestJoinOfUnits(t *testing.T) {
	for n := 1; n <= 8; n++ {
		for a := 0; a <= n; a++ {
			for b := 0; b <= n; b++ {
				want := a
				if b > a {
					want = b
				}
				if got := amount.Join(pool(n), u(a), u(b)); got != u(want) {
					t.Errorf("Join(%d units, %d, %d) = %+v", n, a, b, got)
				}
			}
		}
	}
}

// checkRefused checks that Covers is false and Join zero for a and b in both orders.
func checkRefused(t *testing.T, r api.Resource, a, b api.Amount) {
	t.Helper()
	if amount.Covers(r, a, b) || amount.Covers(r, b, a) {
		t.Errorf("Covers of %+v and %+v holds for %+v", a, b, r)
	}
	if ab, ba := amount.Join(r, a, b), amount.Join(r, b, a); ab != u(0) || ba != u(0) {
		t.Errorf("Join of %+v and %+v for %+v is %+v and %+v", a, b, r, ab, ba)
	}
}

// P4.2: Covers is false and Join zero if one of the amounts is not permitted.
func TestOrderRefusesAmounts(t *testing.T) {
	for _, r := range shaped() {
		for _, bad := range refused(r) {
			checkRefused(t, r, bad, bad)
			for _, a := range permitted(r) {
				checkRefused(t, r, bad, a)
			}
		}
	}
	for _, a := range refused(lock) {
		for _, b := range refused(lock) {
			checkRefused(t, lock, a, b)
		}
	}
	for _, a := range refused(pool(3)) {
		for _, b := range refused(pool(3)) {
			checkRefused(t, pool(3), a, b)
		}
	}
}

// P4.2: no amount is permitted for a resource that is not shaped, the zero amount neither.
func TestOrderRefusesResources(t *testing.T) {
	amounts := append(permitted(lock), fitting(pool(8))...)
	for _, r := range append(unshaped(), api.Resource{}) {
		for _, a := range amounts {
			for _, b := range amounts {
				checkRefused(t, r, a, b)
			}
		}
	}
}

// Consequences: Covers is an order of the amounts that are permitted.
func TestCoversIsAnOrder(t *testing.T) {
	for _, r := range shaped() {
		all := permitted(r)
		for _, a := range all {
			if !amount.Covers(r, a, a) {
				t.Errorf("%+v does not cover itself", a)
			}
			for _, b := range all {
				if a != b && amount.Covers(r, a, b) && amount.Covers(r, b, a) {
					t.Errorf("%+v and %+v cover each other", a, b)
				}
				for _, c := range all {
					if amount.Covers(r, a, b) && amount.Covers(r, b, c) && !amount.Covers(r, a, c) {
						t.Errorf("%+v covers %+v, which covers %+v", a, b, c)
					}
				}
			}
		}
	}
}

// P4.2, Consequences: Join is the least upper bound of two amounts under Covers.
func TestJoinIsLeastUpperBound(t *testing.T) {
	for _, r := range shaped() {
		all := permitted(r)
		for _, a := range all {
			for _, b := range all {
				join := amount.Join(r, a, b)
				for _, c := range all {
					coversBoth := amount.Covers(r, c, a) && amount.Covers(r, c, b)
					if coversBoth != amount.Covers(r, c, join) {
						t.Errorf("Join(%+v, %+v) = %+v; that %+v covers both is %t", a, b, join, c, coversBoth)
					}
				}
			}
		}
	}
}

// Consequences: Join is idempotent, commutative and associative.
func TestJoinLaws(t *testing.T) {
	for _, r := range shaped() {
		all := permitted(r)
		for _, a := range all {
			if amount.Join(r, a, a) != a {
				t.Errorf("Join of %+v with itself", a)
			}
			for _, b := range all {
				ab := amount.Join(r, a, b)
				if ab != amount.Join(r, b, a) {
					t.Errorf("Join of %+v and %+v depends on their order", a, b)
				}
				for _, c := range all {
					if amount.Join(r, ab, c) != amount.Join(r, a, amount.Join(r, b, c)) {
						t.Errorf("Join is not associative for %+v, %+v, %+v", a, b, c)
					}
				}
			}
		}
	}
}

// Consequences: every two amounts that are permitted have a greatest lower bound, so that Covers makes them a lattice.
func TestLowerBounds(t *testing.T) {
	for _, r := range shaped() {
		all := permitted(r)
		for _, a := range all {
			for _, b := range all {
				greatest := amount.Join(r, u(0), u(0))
				for _, c := range all {
					if amount.Covers(r, a, c) && amount.Covers(r, b, c) {
						greatest = amount.Join(r, greatest, c)
					}
				}
				if !amount.Covers(r, a, greatest) || !amount.Covers(r, b, greatest) {
					t.Errorf("%+v and %+v have no greatest lower bound", a, b)
				}
			}
		}
	}
}
