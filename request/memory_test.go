package request_test

import (
	"slices"
	"testing"

	"clusterlocks/api"
	"clusterlocks/request"
)

// roomy returns a copy of e in which behind each list of kids lie three more expressions.
func roomy(e api.Expr) api.Expr {
	room := make([]api.Expr, 0, len(e.Kids)+3)
	for _, kid := range e.Kids {
		room = append(room, roomy(kid))
	}
	e.Kids = room
	_ = append(room, lock("unread", api.X), api.Expr{K: -1}, chain(9, lock("a", 9)))
	return e
}

// sameRoomy reports whether two results of roomy are equal, also behind their lists.
func sameRoomy(a, b api.Expr) bool {
	n := len(a.Kids)
	return a.K == b.K && a.Atom == b.Atom && slices.EqualFunc(a.Kids, b.Kids, sameRoomy) && slices.EqualFunc(a.Kids[n:n+3], b.Kids[n:n+3], same)
}

// R2: arguments are not changed, and what lies behind their lists is neither changed nor read.
func TestArgumentsStayAsTheyAre(t *testing.T) {
	a, p := lock("a", api.S), pool("p", 2)
	for _, e := range []api.Expr{
		a, all(a), all(p, a, all(p)), group(1, group(2, a, all(a), p), group(1, a, p)), chain(3, p), all(times(22, a)...), all(letters(8)...),
		{}, group(0, a), group(4, a, p), all(letters(9)...), chain(4, a), all(times(24, a)...), all(a, lock("a", api.X)),
	} {
		room, was := roomy(e), roomy(e)
		r, plain := api.Request{Expr: room, Priority: 1, Limit: 2}, api.Request{Expr: e, Priority: 1, Limit: 2}
		if request.Nodes(room) != request.Nodes(e) || request.Depth(room) != request.Depth(e) || request.ValidExpr(room) != request.ValidExpr(e) || request.Valid(r) != request.Valid(plain) {
			t.Errorf("what lies behind the lists of %s matters", show(e))
		}
		if request.FormatExpr(room) != request.FormatExpr(e) || request.Format(r) != request.Format(plain) {
			t.Errorf("what lies behind the lists of %s is written: %q", show(e), request.Format(r))
		}
		if !sameRoomy(room, was) {
			t.Errorf("%s was changed to %s", show(e), show(room))
		}
	}
}

// R2: a nil list and an empty one are equivalent.
func TestNilAndEmpty(t *testing.T) {
	for _, kids := range [][]api.Expr{nil, {}, make([]api.Expr, 0, 5)} {
		e := lock("a", api.S)
		e.Kids = kids
		wantValid(t, e, true)
		wantSize(t, e, 1, 1)
		wantValid(t, all(e, lock("a", api.S)), true)
		wantSize(t, all(e, e), 3, 2)
		wantValid(t, api.Expr{Kids: kids}, false)
		wantValid(t, api.Expr{K: 1, Kids: kids}, false)
		wantSize(t, api.Expr{K: 1, Kids: kids}, 1, 1)
		if got := request.FormatExpr(all(e)); got != "all(a:S)" {
			t.Errorf("FormatExpr = %q", got)
		}
	}
}

// lists adds the places of all lists of kids in e, with the room behind them, and reports whether none was there yet.
func lists(e api.Expr, places map[*api.Expr]bool) bool {
	apart := true
	room := e.Kids[:cap(e.Kids)]
	for i := range room {
		apart = apart && !places[&room[i]]
		places[&room[i]] = true
	}
	for _, kid := range e.Kids {
		apart = lists(kid, places) && apart
	}
	return apart
}

// R2, R5: no two lists of one result of Parse, or of two results, share memory.
func TestResultsAreNew(t *testing.T) {
	for _, s := range []string{
		"all(a:S)", "any(a:S, b:X, p*2) limit 9", "all(all(a:S), all(a:S), all(a:S))", "2 of (all(a:S, b:X), a:S, any(p*1, all(a:S, p*1), p*1), b:X, any(a:S, a:S, a:S))",
		"all(all(all(a:S)), all(all(a:S, a:S), all(a:S, a:S)))",
	} {
		places := map[*api.Expr]bool{}
		first, _, _ := request.Parse(s)
		second, _, _ := request.Parse(s)
		third, _, _ := request.Parse(request.Format(second))
		if !lists(first.Expr, places) || !lists(second.Expr, places) || !lists(third.Expr, places) {
			t.Errorf("lists in results of Parse(%q) share memory", s)
		}
		want := roomy(second.Expr)
		first.Expr.Kids[0] = api.Expr{K: 9}
		if !same(second.Expr, want) {
			t.Errorf("a change of one result of Parse(%q) changed another", s)
		}
		wantRequest(t, s, second)
	}
}
