package amount_test

import (
	"math"
	"slices"
	"testing"

	"clusterlocks/amount"
	"clusterlocks/api"
)

// friends are the modes that each mode is compatible with.
var friends = map[int][]int{
	api.IS:  {api.IS, api.IX, api.S, api.SIX},
	api.IX:  {api.IS, api.IX},
	api.S:   {api.IS, api.S},
	api.SIX: {api.IS},
	api.X:   {},
}

// lists returns all lists of up to n amounts that are permitted for r.
func lists(r api.Resource, n int) [][]api.Amount {
	out := [][]api.Amount{nil}
	ends := out
	for range n {
		var longer [][]api.Amount
		for _, l := range ends {
			for _, a := range permitted(r) {
				longer = append(longer, append(slices.Clone(l), a))
			}
		}
		out = append(out, longer...)
		ends = longer
	}
	return out
}

// together says whether different processes may hold the amounts of l, which are permitted for r.
func together(r api.Resource, l []api.Amount) bool {
	sum := 0
	for i, a := range l {
		sum += a.Units
		for _, b := range l[:i] {
			if a.Mode != 0 && b.Mode != 0 && !slices.Contains(friends[a.Mode], b.Mode) {
				return false
			}
		}
	}
	return sum <= r.Units
}

// P4.3: Compatible of all short lists of modes, and of none.
func TestCompatibleModes(t *testing.T) {
	for _, l := range lists(lock, 5) {
		if got := amount.Compatible(lock, l); got != together(lock, l) {
			t.Errorf("Compatible(lock, %v) = %t", l, got)
		}
	}
}

// P4.3: Compatible of all short lists of units, and of none.
func TestCompatibleUnits(t *testing.T) {
	for n := 1; n <= 8; n++ {
		for _, l := range lists(pool(n), 4) {
			if got := amount.Compatible(pool(n), l); got != together(pool(n), l) {
				t.Errorf("Compatible(%d units, %v) = %t", n, l, got)
			}
		}
	}
}

// P4.3: Compatible of longer lists.
func TestCompatibleLong(t *testing.T) {
	table := []struct {
		r    api.Resource
		l    []api.Amount
		want bool
	}{
		{lock, slices.Repeat([]api.Amount{m(api.IS), m(api.IX), m(0)}, 100000), true},
		{lock, append(slices.Repeat([]api.Amount{m(api.IS)}, 300000), m(api.SIX)), true},
		{lock, append(slices.Repeat([]api.Amount{m(api.IS), m(api.S)}, 100000), m(api.IX)), false},
		{lock, append([]api.Amount{m(api.X)}, slices.Repeat([]api.Amount{m(0)}, 300000)...), true},
		{lock, slices.Concat([]api.Amount{m(api.X)}, slices.Repeat([]api.Amount{m(0)}, 300000), []api.Amount{m(api.IS)}), false},
		{lock, append(slices.Repeat([]api.Amount{m(api.IS)}, 300000), u(1)), false},
		{pool(8), slices.Repeat([]api.Amount{u(1)}, 8), true},
		{pool(8), slices.Repeat([]api.Amount{u(1)}, 9), false},
		{pool(8), append(slices.Repeat([]api.Amount{u(0)}, 300000), u(8)), true},
		{pool(8), slices.Repeat([]api.Amount{u(0), u(8)}, 150000), false},
		{pool(8), append(slices.Repeat([]api.Amount{u(0)}, 300000), u(-1)), false},
	}
	for i, x := range table {
		if got := amount.Compatible(x.r, x.l); got != x.want {
			t.Errorf("list %d of %d amounts: %t", i, len(x.l), got)
		}
	}
}

// P4.3: Compatible is false wherever in the list an amount stands that is not permitted.
func TestCompatibleRefusesAmounts(t *testing.T) {
	for _, r := range shaped() {
		for _, bad := range refused(r) {
			if amount.Compatible(r, []api.Amount{bad}) || amount.Compatible(r, []api.Amount{bad, bad}) {
				t.Errorf("Compatible(%+v) of %+v alone is true", r, bad)
			}
			for _, a := range permitted(r) {
				for _, l := range [][]api.Amount{{bad, a}, {a, bad}, {u(0), bad, a}, {a, a, a, bad}} {
					if amount.Compatible(r, l) {
						t.Errorf("Compatible(%+v, %v) = true", r, l)
					}
				}
			}
		}
	}
}

// P4.3: amounts that are not permitted do not make up for each other.
func TestCompatibleRefusesSums(t *testing.T) {
	for _, l := range [][]api.Amount{
		{u(3), u(-1), u(1)}, {u(-1), u(3), u(1)}, {u(4), u(-1)}, {u(-1), u(4)},
		{u(math.MaxInt), u(math.MaxInt), u(2)}, {u(math.MinInt), u(math.MinInt)}, {u(math.MaxInt), u(math.MinInt)},
		{u(1), u(math.MinInt)}, {u(math.MinInt), u(3)},
	} {
		if amount.Compatible(pool(3), l) {
			t.Errorf("Compatible(%v) = true", l)
		}
	}
}

// P4.3: Compatible and Room are false if the resource is not shaped, for an empty list, too.
func TestTogetherUnshaped(t *testing.T) {
	for _, r := range append(unshaped(), api.Resource{}) {
		for _, l := range [][]api.Amount{nil, {}, {u(0)}, {u(1)}, {m(api.IS)}, {m(api.IS), m(api.IS)}, {u(0), u(0), u(1)}} {
			if amount.Compatible(r, l) {
				t.Errorf("Compatible(%+v, %v) = true", r, l)
			}
			for _, a := range []api.Amount{u(0), u(1), m(api.IS)} {
				if amount.Room(r, l, a) {
					t.Errorf("Room(%+v, %v, %+v) = true", r, l, a)
				}
			}
		}
	}
}

// P4.3: Room reports whether the list with the amount added is compatible.
func TestRoom(t *testing.T) {
	for _, r := range []api.Resource{lock, pool(1), pool(3), pool(8)} {
		for _, l := range lists(r, 3) {
			for _, a := range permitted(r) {
				if got := amount.Room(r, l, a); got != together(r, append(slices.Clone(l), a)) {
					t.Errorf("Room(%+v, %v, %+v) = %t", r, l, a, got)
				}
			}
		}
	}
}

// P4.3: Room is false if an amount of the list, or the one that is added, is not permitted.
func TestRoomRefuses(t *testing.T) {
	for _, r := range shaped() {
		small := fitting(r)[0]
		for _, bad := range refused(r) {
			if amount.Room(r, nil, bad) || amount.Room(r, []api.Amount{small}, bad) || amount.Room(r, []api.Amount{u(0)}, bad) {
				t.Errorf("Room(%+v) for %+v is true", r, bad)
			}
			if amount.Room(r, []api.Amount{bad}, small) || amount.Room(r, []api.Amount{bad}, u(0)) || amount.Room(r, []api.Amount{u(0), bad}, u(0)) {
				t.Errorf("Room(%+v) in a list with %+v is true", r, bad)
			}
		}
	}
	if amount.Room(lock, []api.Amount{m(api.X), m(api.IS)}, u(0)) {
		t.Error("Room in a list that is not compatible")
	}
}

// Consequences: the order of a list does not matter, and every part of a compatible list is compatible.
func TestCompatibleOrderAndParts(t *testing.T) {
	for _, r := range []api.Resource{lock, pool(4), pool(8)} {
		for _, l := range lists(r, 4) {
			got := amount.Compatible(r, l)
			turned := slices.Clone(l)
			slices.Reverse(turned)
			if amount.Compatible(r, turned) != got {
				t.Errorf("%v is compatible: %t, turned round: %t", l, got, !got)
			}
			for i := range l {
				moved := slices.Concat(l[i:], l[:i])
				if amount.Compatible(r, moved) != got {
					t.Errorf("%v is compatible: %t, but %v: %t", l, got, moved, !got)
				}
				part := slices.Concat(l[:i], l[i+1:])
				if got && !amount.Compatible(r, part) {
					t.Errorf("%v is compatible, but %v is not", l, part)
				}
			}
		}
	}
}

// Consequences: a list whose amounts are covered by those of a compatible list is compatible.
func TestCompatibleCovered(t *testing.T) {
	for _, r := range []api.Resource{lock, pool(3), pool(5)} {
		all := lists(r, 3)
		for _, l := range all {
			if !amount.Compatible(r, l) {
				continue
			}
			for _, less := range all {
				if coveredOneByOne(r, l, less) && !amount.Compatible(r, less) {
					t.Errorf("%v is compatible, but %v is not", l, less)
				}
			}
		}
	}
}

// coveredOneByOne says whether the amounts of less are covered by those of l.
func coveredOneByOne(r api.Resource, l, less []api.Amount) bool {
	if len(l) != len(less) {
		return false
	}
	for i, a := range l {
		if !amount.Covers(r, a, less[i]) {
			return false
		}
	}
	return true
}

// R2: Compatible and Room neither change their list nor read or write what lies behind its length.
func TestTogetherKeepsToItsList(t *testing.T) {
	list := []api.Amount{m(api.IS), m(api.IX), m(api.X), u(1)}
	was := slices.Clone(list)
	for i, want := range []bool{true, true, true, false, false} {
		if got := amount.Compatible(lock, list[:i]); got != want {
			t.Errorf("Compatible of the first %d of %v = %t", i, list, got)
		}
		if got := amount.Room(lock, list[:i], m(api.IS)); got != want {
			t.Errorf("Room in the first %d of %v = %t", i, list, got)
		}
		if !slices.Equal(list, was) {
			t.Errorf("the list was changed: %v", list)
		}
	}
}
