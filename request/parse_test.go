package request_test

import (
	"slices"
	"strconv"
	"strings"
	"testing"

	"clusterlocks/api"
	"clusterlocks/request"
)

// same reports whether two expressions are equal; whether a list without elements is nil does not matter.
func same(a, b api.Expr) bool {
	return a.K == b.K && a.Atom == b.Atom && slices.EqualFunc(a.Kids, b.Kids, same)
}

func sameRequest(a, b api.Request) bool {
	return same(a.Expr, b.Expr) && a.Priority == b.Priority && a.Limit == b.Limit
}

// wantRequest reports it if s does not mean this request.
func wantRequest(t *testing.T, s string, want api.Request) {
	t.Helper()
	if got, at, err := request.Parse(s); !sameRequest(got, want) || at != 0 || err != api.OK {
		t.Errorf("Parse(%q) = %s, %d, %d, %d, %d, want %s, %d, %d", s, show(got.Expr), got.Priority, got.Limit, at, err, show(want.Expr), want.Priority, want.Limit)
	}
}

// wantExpr reports it if s does not mean this expression without settings.
func wantExpr(t *testing.T, s string, want api.Expr) {
	t.Helper()
	wantRequest(t, s, api.Request{Expr: want})
}

// P7.2: atoms of every mode and every number of units.
func TestParseAtoms(t *testing.T) {
	for _, name := range names {
		for i, mode := range []string{"IS", "IX", "S", "SIX", "X"} {
			wantExpr(t, name+":"+mode, lock(name, i+1))
			wantExpr(t, "\t"+name+" :\n"+mode+"\r", lock(name, i+1))
		}
		for units := 1; units <= 8; units++ {
			wantExpr(t, name+"*"+strconv.Itoa(units), pool(name, units))
			wantExpr(t, " "+name+"  *\t"+strconv.Itoa(units)+"\n", pool(name, units))
		}
	}
}

// P7.2: groups of each word, with 1 to 23 kids, and every K.
func TestParseGroups(t *testing.T) {
	for n := 1; n <= 23; n++ {
		list := "(" + strings.Repeat("p*3,", n-1) + "p*3)"
		kids := times(n, pool("p", 3))
		wantExpr(t, "all"+list, group(n, kids...))
		wantExpr(t, "any"+list, group(1, kids...))
		for k := 1; k <= n; k++ {
			wantExpr(t, strconv.Itoa(k)+" of"+list, group(k, kids...))
			wantExpr(t, strconv.Itoa(k)+"of "+list, group(k, kids...))
		}
	}
}

// P7.2: groups within groups, with the kids in their order.
func TestParseNestedGroups(t *testing.T) {
	a, b, c, p := lock("a", api.S), lock("b", api.X), lock("c", api.SIX), pool("p", 2)
	wantExpr(t, "all(all(all(a:S)))", chain(3, a))
	wantExpr(t, "any(any(any(a:S)))", chain(3, a))
	wantExpr(t, "1 of (1 of (1 of (a:S)))", chain(3, a))
	wantExpr(t, "all(b:X,a:S)", all(b, a))
	wantExpr(t, "any(a:S,all(b:X,c:SIX),p*2)", group(1, a, all(b, c), p))
	wantExpr(t, "2 of (all(a:S), any(b:X, c:SIX), p*2)", group(2, all(a), group(1, b, c), p))
	wantExpr(t, "any(2of(any(a:S,b:X),all(c:SIX),p*2),a:S)", group(1, group(2, group(1, a, b), all(c), p), a))
	wantExpr(t, "all(a:S, all(b:X, all(c:SIX, p*2), a:S), b:X)", all(a, all(b, all(c, p), a), b))
	wantExpr(t, "all(any(all(a:S),b:X),any(c:SIX,p*2),3 of(a:S,a:S,a:S))", all(group(1, all(a), b), group(1, c, p), all(a, a, a)))
}

// P7.2: the priority and the limit, in this order; both are 0 where they are missing.
func TestParseSettings(t *testing.T) {
	e := lock("a", api.S)
	wantRequest(t, "a:S", api.Request{Expr: e})
	for priority := range 8 {
		prio := " prio " + strconv.Itoa(priority)
		wantRequest(t, "a:S"+prio, api.Request{Expr: e, Priority: priority})
		for limit := range 1001 {
			word := " limit " + strconv.Itoa(limit)
			wantRequest(t, "a:S"+prio+word, api.Request{Expr: e, Priority: priority, Limit: limit})
			if priority == 0 {
				wantRequest(t, "a:S"+word, api.Request{Expr: e, Limit: limit})
			}
		}
	}
	wantRequest(t, "all(a:S)prio 7limit\n1000\t", api.Request{Expr: all(e), Priority: 7, Limit: 1000})
	wantRequest(t, "p*8prio 1", api.Request{Expr: pool("p", 8), Priority: 1})
	wantRequest(t, "2 of (a:S, a:S)limit 12", api.Request{Expr: all(e, e), Limit: 12})
}

// P7.2: as many nodes, as much depth and as many different atoms as there may be.
func TestParseAtTheLimits(t *testing.T) {
	wantExpr(t, "all(a:IS,b:IX,c:S,d:SIX,e:X,f:IS,g:IX,h:S)", all(letters(8)...))
	wantExpr(t, "all(a:IS,b:IX,c:S,d:SIX,e:X,f:IS,g:IX,h:S,h:S,a:IS,d:SIX)", all(append(letters(8), letters(8)[7], letters(8)[0], letters(8)[3])...))
	a, p := lock("a", api.X), pool("p", 8)
	wantExpr(t, "any("+strings.Repeat("a:X, ", 22)+"a:X)", group(1, times(23, a)...))
	wantExpr(t, "all("+strings.Repeat("all(a:X), ", 10)+"all(p*8), p*8)", all(append(times(10, all(a)), all(p), p)...))
	wantExpr(t, strings.Repeat("any(", 3)+strings.Repeat("a:X,", 20)+"p*8)))", group(1, group(1, group(1, append(times(20, a), p)...))))
	wantExpr(t, "all("+strings.Repeat("all(all(a:X)), ", 7)+"p*8, p*8)", all(append(times(7, chain(2, a)), p, p)...))
}

// P7.2: a word is a name unless it is reserved; words of the catalog's text and modes in small letters are names.
func TestParseNames(t *testing.T) {
	wantExpr(t, "all(any1:S, all-:S, of_:S, prio7:X, limit9*1)", all(lock("any1", api.S), lock("all-", api.S), lock("of_", api.S), lock("prio7", api.X), pool("limit9", 1)))
	wantExpr(t, "any(lock:S, pool*1, at:X, x:X, is:IS)", group(1, lock("lock", api.S), pool("pool", 1), lock("at", api.X), lock("x", api.X), lock("is", api.IS)))
}

// P7.2: space may stand anywhere between tokens, and need not.
func TestParseSpace(t *testing.T) {
	words := []string{"all", "(", "a", ":", "SIX", ",", "2", "of", "(", "p", "*", "1", ",", "b", ":", "X", ")", ")", "prio ", "3", "limit ", "44"}
	want := api.Request{Expr: all(lock("a", api.SIX), all(pool("p", 1), lock("b", api.X))), Priority: 3, Limit: 44}
	for _, space := range []string{"", " ", "\t", "\n", "\r", "  ", "\r\n", strings.Repeat(" ", 40)} {
		text := strings.Join(words, space)
		wantRequest(t, text, want)
		wantRequest(t, space+text+space, want)
		for i := range words {
			wantRequest(t, strings.Join(words[:i], "")+space+strings.Join(words[i:], ""), want)
		}
	}
}
