package normal_test

import (
	"slices"
	"testing"

	"clusterlocks/api"
	"clusterlocks/formula"
	"clusterlocks/normal"
	"clusterlocks/request"
)

// roomy returns a copy of e in which behind each list of kids lie two more expressions.
func roomy(e api.Expr) api.Expr {
	room := make([]api.Expr, 0, len(e.Kids)+2)
	for _, kid := range e.Kids {
		room = append(room, roomy(kid))
	}
	e.Kids = room
	_ = append(room, lock("unread", api.X), api.Expr{K: -1})
	return e
}

// sameRoomy reports whether two results of roomy are equal, also behind their lists.
func sameRoomy(a, b api.Expr) bool {
	n := len(a.Kids)
	return a.K == b.K && a.Atom == b.Atom && slices.EqualFunc(a.Kids, b.Kids, sameRoomy) && slices.EqualFunc(a.Kids[n:n+2], b.Kids[n:n+2], same)
}

// lists adds the places of all lists of kids in e, with the room behind them, and reports whether none was there yet.
func lists(e api.Expr, places map[*api.Expr]bool) bool {
	apart := true
	room := e.Kids[:cap(e.Kids)]
	for i := range room {
		apart = apart && !places[&room[i]]
		places[&room[i]] = true
	}
	for _, kid := range e.Kids {
		apart = lists(kid, places) && apart
	}
	return apart
}

// R2: arguments are not changed, and what lies behind their lists is neither changed nor read.
func TestArgumentsStayAsTheyAre(t *testing.T) {
	for _, e := range slices.Concat(samples(9, 240), []api.Expr{{}, group(0, lock("a", 1)), group(4, letters(3)...), all(letters(9)...)}) {
		room, was := roomy(e), roomy(e)
		wantSets(t, room, show(normal.Minimal(e)), show(normal.Blocking(e)))
		wantExpr(t, "Dual", normal.Dual(room), normal.Dual(e))
		wantSimple(t, room, normal.Simplify(e))
		other, otherWas := roomy(group(1, letters(3)...)), roomy(group(1, letters(3)...))
		if normal.Implies(room, other) != normal.Implies(e, other) || normal.Implies(other, room) != normal.Implies(other, e) || normal.Equivalent(room, e) != request.ValidExpr(e) {
			t.Errorf("what lies behind the lists of %+v matters", e)
		}
		if !sameRoomy(room, was) || !sameRoomy(other, otherWas) {
			t.Errorf("%+v was changed", e)
		}
	}
}

// R2: FromSets does not change its arguments, nor what lies behind their lists, which it does not read.
func TestSetsStayAsTheyAre(t *testing.T) {
	atoms := atomsOf(letters(8))
	all := [][]int{{2, 1, 0, 9}, {0, 0, 1, 0}, {5, -1}}
	sets := [][]int{all[0][:3], all[1][:2]}
	room := append(slices.Clone(sets), []int{0})[:2]
	wantFrom(t, atoms[:3], room, group(1, group(3, letters(3)[2], letters(3)[1], letters(3)[0]), group(2, letters(1)[0], letters(1)[0])))
	wantNone(t, "an index behind the atoms", atoms[:2], room)
	wantNone(t, "a set without elements", atoms, [][]int{all[2][:0]})
	wantNone(t, "a list without sets", atoms, room[:0])
	if show(all[:2]) != "2109 0010" || all[2][0] != 5 || all[2][1] != -1 || show(room[:3]) != "210 00 0" || !slices.Equal(atoms, atomsOf(letters(8))) {
		t.Errorf("arguments were changed to %v, %v, %v", atoms, room[:3], all)
	}
}

// R2: lists in results are apart from those in arguments, in other results and in the same one, also if the argument's lists are not apart.
func TestResultsAreNew(t *testing.T) {
	list := letters(3)
	twice := group(2, list...)
	shared := []api.Expr{all(twice, group(3, list...), twice, group(1, list...)), group(2, twice, twice, all(twice)), group(2, all(twice), group(1, list...), group(1, group(1, list...), lock("z", api.S)))}
	for _, e := range slices.Concat(samples(10, 480), shared, []api.Expr{{Atom: letters(1)[0].Atom, Kids: make([]api.Expr, 0, 3)}}) {
		places := map[*api.Expr]bool{}
		lists(e, places)
		for range 2 {
			sets := normal.Minimal(e)
			made, _ := normal.FromSets(formula.Atoms(e), sets)
			for _, result := range []api.Expr{normal.Dual(e), normal.Simplify(e), made} {
				if !lists(result, places) {
					t.Errorf("lists in results for %s share memory: %s", request.FormatExpr(e), request.FormatExpr(result))
				}
			}
		}
	}
}

// R2: no two lists of the results of Minimal and Blocking share memory.
func TestSetsAreNew(t *testing.T) {
	for _, e := range samples(11, 240) {
		places, outer := map[*int]bool{}, map[*[]int]bool{}
		for _, sets := range [][][]int{normal.Minimal(e), normal.Blocking(e), normal.Minimal(e), normal.Blocking(e)} {
			room := sets[:cap(sets)]
			for i := range room {
				if outer[&room[i]] {
					t.Error("lists of sets share memory")
				}
				outer[&room[i]] = true
				set := room[i][:cap(room[i])]
				for j := range set {
					if places[&set[j]] {
						t.Error("sets share memory")
					}
					places[&set[j]] = true
				}
			}
		}
	}
}

// R2: a nil list of kids and an empty one are equivalent.
func TestNilAndEmpty(t *testing.T) {
	e, bare := letters(1)[0], letters(1)[0]
	e.Kids = []api.Expr{}
	wantSets(t, e, "0", "0")
	wantSimple(t, e, bare)
	wantSimple(t, group(1, e, bare), bare)
	wantSimple(t, group(1, all(e, lock("z", api.S)), all(bare, lock("z", api.S))), all(bare, lock("z", api.S)))
	wantExpr(t, "Dual", normal.Dual(all(e, bare)), group(1, bare, bare))
	wantImplies(t, e, bare, true, true)
	wantImplies(t, e, group(1, e, lock("z", api.S)), true, false)
}
