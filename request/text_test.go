package request_test

import (
	"strconv"
	"strings"
	"testing"

	"clusterlocks/api"
	"clusterlocks/request"
)

// show returns the parts of any expression, valid or not, as far as MaxDepth.
func show(e api.Expr) string {
	return showTo(e, 5)
}

func showTo(e api.Expr, depth int) string {
	a := e.Atom
	out := strconv.Itoa(e.K) + " " + strconv.Quote(a.Name) + ":" + strconv.Itoa(a.Amount.Mode) + "*" + strconv.Itoa(a.Amount.Units)
	if len(e.Kids) == 0 || depth == 0 {
		return out
	}
	var kids []string
	for i, kid := range e.Kids {
		if i < 30 {
			kids = append(kids, showTo(kid, depth-1))
		}
	}
	return out + "(" + strings.Join(kids, ", ") + ")"
}

// wantText reports it if e does not have this text, alone and in a request, or the text does not mean e.
func wantText(t *testing.T, e api.Expr, want string) {
	t.Helper()
	if got := request.FormatExpr(e); got != want {
		t.Errorf("FormatExpr(%s) = %q, want %q", show(e), got, want)
	}
	if got := request.Format(api.Request{Expr: e}); got != want {
		t.Errorf("Format of a request for %s = %q, want %q", show(e), got, want)
	}
	if got := request.Format(api.Request{Expr: e, Priority: 3, Limit: 50}); got != want+" prio 3 limit 50" {
		t.Errorf("Format of a request for %s, with settings = %q", show(e), got)
	}
	wantRequest(t, want, api.Request{Expr: e})
}

// P7.3: the text of atoms of every mode and every number of units.
func TestTextOfAtoms(t *testing.T) {
	for _, name := range names {
		for i, mode := range []string{"IS", "IX", "S", "SIX", "X"} {
			wantText(t, lock(name, i+1), name+":"+mode)
		}
		for units := 1; units <= 8; units++ {
			wantText(t, pool(name, units), name+"*"+strconv.Itoa(units))
		}
	}
}

// P7.3: the word of a group, for every number of kids and every K; "all" takes precedence over "any".
func TestTextOfGroups(t *testing.T) {
	for n := 1; n <= 23; n++ {
		list := "(" + strings.Repeat("a:S, ", n-1) + "a:S)"
		for k := 1; k <= n; k++ {
			word := strconv.Itoa(k) + " of "
			switch {
			case k == n:
				word = "all"
			case k == 1:
				word = "any"
			}
			wantText(t, group(k, times(n, lock("a", api.S))...), word+list)
		}
	}
	wantText(t, all(lock("a", api.S)), "all(a:S)")
	wantText(t, all(lock("a", api.S), lock("b", api.S)), "all(a:S, b:S)")
	wantText(t, group(1, lock("a", api.S), lock("b", api.S)), "any(a:S, b:S)")
	wantText(t, group(2, lock("a", api.S), lock("b", api.S), pool("c", 1)), "2 of (a:S, b:S, c*1)")
	wantText(t, group(10, times(11, pool("p", 8))...), "10 of (p*8"+strings.Repeat(", p*8", 10)+")")
}

// P7.3: kids are written in their order, at every depth.
func TestTextOfNestedGroups(t *testing.T) {
	a, b, c, p := lock("a", api.S), lock("b", api.X), lock("c", api.SIX), pool("p", 2)
	wantText(t, all(b, a), "all(b:X, a:S)")
	wantText(t, group(1, p, all(a)), "any(p*2, all(a:S))")
	wantText(t, group(2, all(a), group(1, b, c), p), "2 of (all(a:S), any(b:X, c:SIX), p*2)")
	wantText(t, all(all(all(a))), "all(all(all(a:S)))")
	wantText(t, group(1, group(1, group(1, a, b), c), group(2, p, c, a)), "any(any(any(a:S, b:X), c:SIX), 2 of (p*2, c:SIX, a:S))")
	wantText(t, all(a, all(b, all(c, p), a), b), "all(a:S, all(b:X, all(c:SIX, p*2), a:S), b:X)")
}

// P7.3: " prio " and " limit ", for every number that is not 0.
func TestTextOfSettings(t *testing.T) {
	for priority := range 8 {
		for limit := range 1001 {
			want := "a:S"
			if priority > 0 {
				want += " prio " + strconv.Itoa(priority)
			}
			if limit > 0 {
				want += " limit " + strconv.Itoa(limit)
			}
			r := api.Request{Expr: lock("a", api.S), Priority: priority, Limit: limit}
			if got := request.Format(r); got != want {
				t.Errorf("Format(%+v) = %q, want %q", r, got, want)
			}
			wantRequest(t, want, r)
		}
	}
}

// P7.3: what is not valid has an empty text (wantValid of valid_test.go checks it for all its arguments).
func TestNoText(t *testing.T) {
	for _, e := range []api.Expr{{}, lock("a", 0), lock("a", 6), lock("any", 1), pool("p", 9), atom("a", 1, 1), group(0, lock("a", 1)), group(3, lock("a", 1), lock("b", 1)), all(lock("a", 1), lock("a", 2)), all(letters(9)...), chain(4, lock("a", 1)), all(times(24, lock("a", 1))...)} {
		wantValid(t, e, false)
	}
	for _, r := range []api.Request{{Expr: lock("a", 1), Priority: 8}, {Expr: lock("a", 1), Priority: -1}, {Expr: lock("a", 1), Limit: 1001}, {Expr: lock("a", 1), Limit: -1}} {
		if got := request.Format(r); got != "" {
			t.Errorf("Format(%+v) = %q", r, got)
		}
		if got := request.FormatExpr(r.Expr); got != "a:IS" {
			t.Errorf("FormatExpr(%s) = %q", show(r.Expr), got)
		}
	}
}
