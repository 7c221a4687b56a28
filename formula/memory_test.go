package formula_test

import (
	"slices"
	"testing"

	"clusterlocks/api"
	"clusterlocks/formula"
)

// roomy returns a copy of e in which behind each list of kids lie two more expressions.
func roomy(e api.Expr) api.Expr {
	room := make([]api.Expr, 0, len(e.Kids)+2)
	for _, kid := range e.Kids {
		room = append(room, roomy(kid))
	}
	e.Kids = room
	_ = append(room, lock("unread", api.X), api.Expr{K: -1})
	return e
}

// sameRoomy reports whether two results of roomy are equal, also behind their lists.
func sameRoomy(a, b api.Expr) bool {
	n := len(a.Kids)
	return a.K == b.K && a.Atom == b.Atom && slices.EqualFunc(a.Kids, b.Kids, sameRoomy) && slices.EqualFunc(a.Kids[n:n+2], b.Kids[n:n+2], same)
}

func same(a, b api.Expr) bool {
	return a.K == b.K && a.Atom == b.Atom && slices.EqualFunc(a.Kids, b.Kids, same)
}

// R2: arguments are not changed, and what lies behind their lists is neither changed nor read.
func TestArgumentsStayAsTheyAre(t *testing.T) {
	for _, e := range slices.Concat(smallOnes(4), randomOnes(7, 300), []api.Expr{{}, group(0, lock("a", 1)), group(4, letters(3)...), all(letters(9)...)}) {
		room, was := roomy(e), roomy(e)
		for _, text := range []string{"", "1", "01", "11", "0111", "111111", "11111111"} {
			for _, rest := range []string{"", "0", "1", "1111111111", "0000000000"} {
				full := marks(text + rest)
				set := full[:len(text)]
				if formula.Holds(room, set) != formula.Holds(e, marks(text)) || formula.Hopeless(room, set) != formula.Hopeless(e, marks(text)) || !slices.Equal(formula.Prune(room, set), formula.Prune(e, marks(text))) {
					t.Errorf("what lies behind the lists of %+v or behind the set %s matters", e, text)
				}
				if unmarks(full) != text+rest {
					t.Errorf("the set %s was changed to %s", text+rest, unmarks(full))
				}
			}
		}
		list := append(resources(), resources()...)
		if formula.Class(room) != formula.Class(e) || !slices.Equal(formula.Atoms(room), formula.Atoms(e)) || formula.Resolve(list[:4], room) != formula.Resolve(resources(), e) {
			t.Errorf("what lies behind the lists of %+v matters", e)
		}
		if !sameRoomy(room, was) || !slices.Equal(list, append(resources(), resources()...)) {
			t.Errorf("%+v or the catalog was changed", e)
		}
	}
}

// R2: results of Prune share no memory with the set or with each other.
func TestPruneIsNew(t *testing.T) {
	for _, e := range []api.Expr{lock("a", api.S), all(letters(8)...), group(1, letters(8)...), group(3, letters(5)...)} {
		for _, text := range []string{"", "1", "11111", "11111111", "00000000", "00000001", "1111111111"} {
			set := marks(text)
			first, second := formula.Prune(e, set), formula.Prune(e, set)
			want := slices.Clone(first)
			for i := range second {
				second[i] = !second[i]
			}
			_ = append(second, true, true)
			if unmarks(set) != text || !slices.Equal(first, want) {
				t.Errorf("a change of a result of Prune changed %s to %s, or another result", text, unmarks(set))
			}
			for i := range set {
				set[i] = !set[i]
			}
			if !slices.Equal(first, want) {
				t.Errorf("a change of the set %s changed the result", text)
			}
		}
	}
}

// R2: results of Atoms share no memory with each other, also behind their lengths.
func TestAtomsAreNew(t *testing.T) {
	for n := 1; n <= 8; n++ {
		e := all(append(letters(n), all(letters(n)...))...)
		was := roomy(e)
		first, second := formula.Atoms(e), formula.Atoms(e)
		want := slices.Clone(first)
		clear(second[:cap(second)])
		if !slices.Equal(first, want) || !slices.Equal(formula.Atoms(e), want) || !same(e, was) {
			t.Errorf("a change of a result of Atoms changed something else")
		}
	}
}

// R2: a nil list and an empty one are equivalent.
func TestNilAndEmpty(t *testing.T) {
	e := lock("a", api.S)
	e.Kids = []api.Expr{}
	either := group(1, e, lock("b", api.S))
	for _, none := range [][]bool{nil, {}, make([]bool, 0, 9)} {
		if formula.Holds(e, none) || formula.Hopeless(e, none) || !slices.Equal(formula.Prune(e, none), []bool{false}) || formula.Holds(either, none) || formula.Hopeless(either, none) {
			t.Error("an empty set")
		}
	}
	if formula.Class(e) != 1 || formula.Class(either) != 3 || len(formula.Atoms(either)) != 2 || !formula.Holds(either, marks("1")) || formula.Resolve(resources(), e) != api.OK {
		t.Error("an empty list of kids")
	}
}
