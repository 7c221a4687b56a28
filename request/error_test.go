package request_test

import (
	"slices"
	"strconv"
	"strings"
	"testing"

	"clusterlocks/api"
	"clusterlocks/request"
)

// wantError reports it if Parse of s returns a request, or not this error at this offset.
func wantError(t *testing.T, s string, at int, err api.Errno) {
	t.Helper()
	if got, gotAt, gotErr := request.Parse(s); !sameRequest(got, api.Request{}) || gotAt != at || gotErr != err {
		t.Errorf("Parse(%.200q) = %+v, %d, %d, want %d, %d", s, got, gotAt, gotErr, at, err)
	}
}

// list returns n atoms, all of them the same one, as the kids of a group are written.
func list(n int) string {
	return strings.TrimSuffix(strings.Repeat("a:S,", n), ",")
}

// P7.2: an error of the lexer is returned as it is, also if there is another error ahead of it.
func TestErrorsOfTheLexer(t *testing.T) {
	ahead := []string{"", "a:S ", "a ", "a: ", "p*0 ", "all() ", "3 of (a:S) ", "all(a:S, a:X) ", "a:S prio 8 ", "a:S limit 1001 ", "of ", "X ", "all(", "all(all(all(all(a:S)))) ", "all(" + list(24) + ") "}
	wrong := map[string]api.Errno{"abcdefghijklm": api.ErrName, "Z": api.ErrSyntax, "IXS": api.ErrSyntax, "10000": api.ErrSyntax, "00": api.ErrSyntax, "01": api.ErrSyntax, "$": api.ErrSyntax, "_": api.ErrSyntax, "\xff": api.ErrSyntax, "\x00": api.ErrSyntax}
	for _, text := range ahead {
		for w, err := range wrong {
			wantError(t, text+w, len(text), err)
			wantError(t, text+w+" abcdefghijklm $ 00", len(text), err)
		}
	}
	for _, text := range ahead {
		if text != "" {
			wantError(t, strings.Repeat(text, 1024), 0, api.ErrTooLong)
		}
	}
	long := "a:S" + strings.Repeat(" ", 1021)
	wantRequest(t, long, api.Request{Expr: lock("a", api.S)})
	wantError(t, long+" ", 0, api.ErrTooLong)
	wantError(t, long[1:], 0, api.ErrSyntax)
	wantError(t, long+"$", 0, api.ErrTooLong)
}

// tokens are one of each sort: names, the reserved words, modes, numbers, punctuation, and the end.
var tokens = []string{"b", "all", "any", "of", "prio", "limit", "S", "SIX", "1", "(", ")", ",", ":", "*", ""}

// P7.2: behind each sort of beginning, each token that cannot follow is a syntax error, whatever comes behind it.
func TestTokensThatCannotFollow(t *testing.T) {
	expression, behind := "b all any 1", "prio limit "
	for _, x := range []struct{ beginning, may string }{
		{"", expression},
		{"a", ": *"}, {"a:", "S SIX"}, {"p*", "1"},
		{"all", "("}, {"any", "("}, {"1", "of"}, {"1 of", "("}, {"9999 of", "("}, {"0 of", "("},
		{"all(", expression}, {"any(", expression}, {"1 of (", expression}, {"0 of (", expression},
		{"all(a", ": *"}, {"all(a:", "S SIX"}, {"all(p*", "1"},
		{"all(a:S", ") ,"}, {"any(p*8", ") ,"}, {"1 of (a:S", ") ,"}, {"99 of (a:S", ") ,"},
		{"all(a:S,", expression}, {"any(a:S,", expression}, {"1 of (a:S,", expression},
		{"all(a:S,p*2", ") ,"}, {"all(a:S,any(p*2)", ") ,"}, {"all(a:S,any(p*2", ") ,"},
		{"all(any", "("}, {"all(1", "of"}, {"all(1 of", "("}, {"all(any(", expression}, {"all(any(p*2),", expression},
		{"a:S", behind}, {"p*2", behind}, {"all(a:S)", behind}, {"any(a:S,p*2)", behind}, {"1 of(a:S)", behind}, {"all(all(all(a:S)))", behind},
		{"a:S prio", "1"}, {"a:S prio 1", "limit "}, {"a:S limit", "1"}, {"a:S limit 1", ""}, {"a:S prio 1 limit", "1"}, {"a:S prio 1 limit 1", ""},
		{"all(a:S)prio", "1"}, {"all(a:S)prio 0", "limit "}, {"all(a:S)limit 0", ""},
	} {
		may := strings.Split(x.may, " ")
		for _, token := range tokens {
			text := x.beginning + " " + token
			switch {
			case !slices.Contains(may, token):
				wantFollow(t, x.beginning, token)
			case token != "":
				// At most the end cannot follow behind the token that may.
				if _, at, err := request.Parse(text); err == api.ErrSyntax && at != len(text) {
					t.Errorf("Parse(%q) = %d, %d", text, at, err)
				}
			default:
				if _, at, err := request.Parse(text); err != api.OK {
					t.Errorf("Parse(%q) = %d, %d", text, at, err)
				}
			}
		}
	}
}

// wantFollow reports it if this token behind this beginning is not a syntax error.
func wantFollow(t *testing.T, beginning, token string) {
	t.Helper()
	at := len(beginning) + 1
	wantError(t, beginning+" "+token, at, api.ErrSyntax)
	if token == "" {
		wantError(t, beginning, at-1, api.ErrSyntax)
		return
	}
	for _, rest := range []string{" b:S", " ( b:S )", " ) , (", " 0 of (", " prio 9 limit 9999", " S", " 1"} {
		wantError(t, beginning+" "+token+rest, at, api.ErrSyntax)
	}
}

// P7.2: reserved words are not names, and names are not written in quotes or capitals.
func TestReservedWords(t *testing.T) {
	for _, w := range []string{"of", "prio", "limit"} {
		wantError(t, w, 0, api.ErrSyntax)
		wantError(t, w+":S", 0, api.ErrSyntax)
		wantError(t, "all("+w+"*2)", 4, api.ErrSyntax)
		wantError(t, "all(a:S, "+w+"(b:S))", 9, api.ErrSyntax)
	}
	for _, w := range []string{"all", "any"} {
		wantError(t, w, 3, api.ErrSyntax)
		wantError(t, w+":S", 3, api.ErrSyntax)
		wantError(t, w+" *2", 4, api.ErrSyntax)
		wantError(t, "2 "+w+"(a:S)", 2, api.ErrSyntax)
	}
	wantError(t, "prio 1", 0, api.ErrSyntax)
	wantError(t, "X:S", 0, api.ErrSyntax)
	wantError(t, "a:x", 2, api.ErrSyntax)
	wantError(t, "a:s", 2, api.ErrSyntax)
	wantError(t, "a:prio", 2, api.ErrSyntax)
	wantError(t, "a:S prio1", 4, api.ErrSyntax)
	wantError(t, "a:S limit1", 4, api.ErrSyntax)
	wantError(t, "a:S priority 1", 4, api.ErrSyntax)
	wantError(t, "a:S prio 1 prio 2", 11, api.ErrSyntax)
	wantError(t, "a:S limit 1 limit 2", 12, api.ErrSyntax)
	wantError(t, "a:S limit 1 prio 2", 12, api.ErrSyntax)
	wantError(t, "all(a:S prio 1)", 8, api.ErrSyntax)
	wantError(t, "all(a:S) limit S", 15, api.ErrSyntax)
}

// P7.2: an expression that begins deeper than MaxDepth, at the token with which it begins, of whatever sort.
func TestTooDeep(t *testing.T) {
	for _, open := range []string{"all(", "any(", "1 of (", "0 of (", "99 of ("} {
		three, four := strings.Repeat(open, 3), strings.Repeat(open, 4)
		for _, first := range []string{"a", "a:S", "p*0", "all", "any(", "1", "0 of (", "9999", "all()"} {
			wantError(t, four+first, len(four), api.ErrTooMany)
			wantError(t, four+first+"))))", len(four), api.ErrTooMany)
			wantError(t, four+" \n"+first, len(four)+2, api.ErrTooMany)
			wantError(t, "all("+three+first, len(three)+4, api.ErrTooMany)
			wantError(t, "all(b:S, "+three+first, len(three)+9, api.ErrTooMany)
			wantError(t, "all(all(all(b:S)), "+three+first, len(three)+19, api.ErrTooMany)
		}
		// A token with which no expression begins is a syntax error there, too.
		for _, first := range []string{"of", "prio", "limit", "S", "(", ")", ",", ":", "*", ""} {
			wantError(t, four+first, len(four), api.ErrSyntax)
			wantError(t, three+first, len(three), api.ErrSyntax)
		}
	}
	wantError(t, "all(all(all(all", 15, api.ErrSyntax)
	wantError(t, "all(all(all(1", 13, api.ErrSyntax)
	wantError(t, strings.Repeat("any(", 200)+"a:S"+strings.Repeat(")", 200), 16, api.ErrTooMany)
}

// P7.2: the node MaxNodes + 1, at the token with which it begins, in the order in which nodes begin.
func TestTooManyNodes(t *testing.T) {
	for _, full := range []string{
		"all(" + list(23) + ",",
		"any(" + list(10) + ",all(" + list(12) + ",",
		"any(" + list(10) + ",all(" + list(12) + "),",
		"all(all(all(" + list(21) + ")),",
		"all(all(" + list(5) + ",all(" + list(5) + ")),all(" + list(10) + "),",
		"23 of (" + strings.Repeat("all(a:S),", 11) + "a:S,",
		"all(" + strings.Repeat("a:S , ", 22) + "any(",
	} {
		for _, first := range []string{"a", "a:S", "b:X", "a:X", "p*0", "all", "any(", "1", "0 of ("} {
			wantError(t, full+first, len(full), api.ErrTooMany)
			wantError(t, full+" "+first+"))) x", len(full)+1, api.ErrTooMany)
		}
		for _, first := range []string{"of", "S", "(", ")", ",", ""} {
			wantError(t, full+first, len(full), api.ErrSyntax)
		}
	}
	for n := 1; n <= 100; n++ {
		s := "all(" + list(n) + ")"
		if n <= 23 {
			wantExpr(t, s, all(times(n, lock("a", api.S))...))
		} else {
			wantError(t, s, 4+23*4, api.ErrTooMany)
		}
	}
}

// P7.2: all numbers of units but 1 to MaxUnits, at the number.
func TestUnits(t *testing.T) {
	for n := range 10000 {
		text := strconv.Itoa(n)
		if n >= 1 && n <= 8 {
			wantExpr(t, "p*"+text, pool("p", n))
			continue
		}
		wantError(t, "p*"+text, 2, api.ErrAmount)
		wantError(t, "all(a:S, p * "+text+" x", 13, api.ErrAmount)
	}
}

// P7.2: an atom with the name of an earlier one and another amount, at the name; wherever both stand.
func TestConflict(t *testing.T) {
	amounts := []string{":IS", ":IX", ":S", ":SIX", ":X", "*1", "*2", "*3", "*4", "*5", "*6", "*7", "*8"}
	for _, x := range amounts {
		for _, y := range amounts {
			for _, between := range []string{"", "b:S,", "all(a2:S),", "any(b:X,c*2),b:X,", strings.Repeat("a"+x+",", 5)} {
				ahead := "all(a" + x + "," + between
				if x == y {
					if _, at, err := request.Parse(ahead + "a" + y + ")"); err != api.OK {
						t.Errorf("Parse(%q) = %d, %d", ahead+"a"+y+")", at, err)
					}
					continue
				}
				wantError(t, ahead+"a"+y+")", len(ahead), api.ErrConflict)
				wantError(t, ahead+" a "+y, len(ahead)+1, api.ErrConflict)
				wantError(t, ahead+"all(any(a"+y+")))", len(ahead)+8, api.ErrConflict)
				wantError(t, "all(all(all(a"+x+")),a"+y, len("all(all(all(a"+x+")),"), api.ErrConflict)
			}
		}
	}
	wantError(t, "all(a:S,b:S,b:X,a:X)", 12, api.ErrConflict)
	wantError(t, "all(a:S,b:S,a:X,b:X)", 12, api.ErrConflict)
	wantError(t, "any(a:S,a:X)", 8, api.ErrConflict)
	wantError(t, "1 of (a:S,a:X)", 10, api.ErrConflict)
}

// P7.2: the different atom MaxAtoms + 1, at the name.
func TestTooManyAtoms(t *testing.T) {
	eight := "all(a:S,b:S,c:S,d:S,e*1,f*1,g*8,h:X,"
	for _, ahead := range []string{eight, eight + "a:S,h:X,", eight + "any(", eight + "all(e*1),any(b:S,", "all(all(all(a:S,b:S,c:S),d:S),any(e*1,f*1,g*8,h:X),", strings.Replace(eight, "b:S,", "b:S,b:S,b:S,", 1)} {
		for _, ninth := range []string{"i:S", "i*8", "aa:S", "a_*1", "abcdefghijkl:X"} {
			wantError(t, ahead+ninth, len(ahead), api.ErrTooMany)
			wantError(t, ahead+" "+ninth+",0", len(ahead)+1, api.ErrTooMany)
		}
		for _, known := range []string{"a:S", "e*1", "h:X", "g*8"} {
			wantError(t, ahead+known, len(ahead)+3, api.ErrSyntax)
		}
		for _, other := range []string{"a:X", "e*2", "h*1"} {
			wantError(t, ahead+other, len(ahead), api.ErrConflict)
		}
	}
}

// P7.2: every number ahead of a group, at the number, but 1 to the number of kids.
func TestNumbersOfGroups(t *testing.T) {
	for n := range 10000 {
		text := strconv.Itoa(n)
		for _, kids := range []int{1, 2, 8, 23} {
			s := text + " of (" + list(kids) + ")"
			if n >= 1 && n <= kids {
				wantExpr(t, s, group(n, times(kids, lock("a", api.S))...))
				continue
			}
			wantError(t, s, 0, api.ErrArg)
			if kids <= 9 {
				wantError(t, "\n"+s+" x", 1, api.ErrArg)
				wantError(t, "all(b:S,any("+s, 12, api.ErrArg)
				wantError(t, "2 of ("+s+",a:X)", 6, api.ErrArg)
			}
		}
	}
	wantError(t, "3 of (all(a:S,a:S),all(a:S,a:S))", 0, api.ErrArg)
	wantError(t, "3 of (all(a:S,a:S,a:S))", 0, api.ErrArg)
	wantError(t, "5 of (4 of (a:S,a:S),a:S)", 6, api.ErrArg)
	wantError(t, "5 of (2 of (a:S,a:S),a:S)", 0, api.ErrArg)
	wantError(t, "1 of (a:S, 0 of (a:S))", 11, api.ErrArg)
}

// P7.2: every number of "prio" beyond MaxPriority and of "limit" beyond MaxLimit, at the number.
func TestSettings(t *testing.T) {
	for n := range 10000 {
		text := strconv.Itoa(n)
		if n > 7 {
			wantError(t, "a:S prio "+text, 9, api.ErrArg)
			wantError(t, "all(a:S)prio  "+text+" limit 1", 14, api.ErrArg)
			wantError(t, "a:S prio "+text+" prio", 9, api.ErrArg)
		}
		if n > 1000 {
			wantError(t, "a:S limit "+text, 10, api.ErrArg)
			wantError(t, "a:S prio 7 limit "+text, 17, api.ErrArg)
			wantError(t, "a:S limit "+text+" x", 10, api.ErrArg)
		}
	}
}

// P7.2: of several errors, the first one that is met from left to right.
func TestFirstError(t *testing.T) {
	for _, x := range []struct {
		s   string
		at  int
		err api.Errno
	}{
		// At the end of an atom: the amount, then the conflict, then the number of atoms.
		{"all(p*1,p*0)", 10, api.ErrAmount},
		{"all(p:S,p*9)", 10, api.ErrAmount},
		{"all(a:S,b:S,c:S,d:S,e:S,f:S,g:S,h:S,i*0)", 38, api.ErrAmount},
		{"all(a:S,b:S,c:S,d:S,e:S,f:S,g:S,h:S,a:X,i:S)", 36, api.ErrConflict},
		{"all(a:S,b:S,c:S,d:S,e:S,f:S,g:S,h:S,i:S,a:X)", 36, api.ErrTooMany},
		// What is wrong with an atom is met at its end, ahead of what stands behind it, but behind what stands in it.
		{"p*0)", 2, api.ErrAmount}, {"p*0", 2, api.ErrAmount}, {"p*S", 2, api.ErrSyntax}, {"all(a:S,a*", 10, api.ErrSyntax}, {"all(a:S,a:3)", 10, api.ErrSyntax}, {"all(a:S,a,a:X)", 9, api.ErrSyntax},
		{"all(a:S,a:X", 8, api.ErrConflict}, {"all(a:S,a:X prio", 8, api.ErrConflict},
		// What is wrong with a group's number is met behind its bracket.
		{"0 of (p*0)", 8, api.ErrAmount}, {"0 of (a:S,a:X)", 10, api.ErrConflict}, {"0 of (a:S", 9, api.ErrSyntax}, {"0 of ()", 6, api.ErrSyntax}, {"0 of a:S", 5, api.ErrSyntax}, {"0 (", 2, api.ErrSyntax}, {"0", 1, api.ErrSyntax},
		{"0 of (a:S,)", 10, api.ErrSyntax}, {"0 of (a:S) x", 0, api.ErrArg}, {"0 of (a:S))", 0, api.ErrArg}, {"all(0 of (a:S) b", 4, api.ErrArg}, {"all(0 of (a:S), p*0)", 4, api.ErrArg}, {"all(0 of (a:S), a:X)", 4, api.ErrArg},
		{"2 of (3 of (a:S), 3 of (a:S))", 6, api.ErrArg}, {"3 of (1 of (a:S), 3 of (a:S))", 18, api.ErrArg}, {"3 of (1 of (a:S), 1 of (a:S))", 0, api.ErrArg},
		{"0 of (0 of (0 of (a:S)))", 12, api.ErrArg}, {"0 of (0 of (1 of (a:S)))", 6, api.ErrArg}, {"0 of (1 of (1 of (a:S))) prio 9", 0, api.ErrArg},
		{"0 of (all(all(all(a:S))))", 18, api.ErrTooMany}, {"0 of (" + list(24) + ")", 6 + 23*4, api.ErrTooMany},
		// An expression's depth and number are met ahead of all that is wrong in it.
		{"all(all(all(all(p*0))))", 16, api.ErrTooMany}, {"all(a:S,all(all(all(a:X))))", 20, api.ErrTooMany}, {"all(all(all(all(0 of (a:S)))))", 16, api.ErrTooMany}, {"all(" + list(23) + ",a:X)", 96, api.ErrTooMany},
		{"all(p*0,all(all(all(a:S))))", 6, api.ErrAmount}, {"all(0 of (a:S),all(all(all(a:S))))", 4, api.ErrArg},
		// What is wrong with the numbers of the settings.
		{"a:S prio 8 limit 1001", 9, api.ErrArg}, {"a:S prio 7 limit 1001", 17, api.ErrArg}, {"a:S prio 8 prio 8", 9, api.ErrArg}, {"p*9 prio 8", 2, api.ErrAmount}, {"0 of (a:S) prio 8", 0, api.ErrArg}, {"a:S limit 1001 prio 8", 10, api.ErrArg}, {"a:S limit prio", 10, api.ErrSyntax}, {"a:S) prio 8", 3, api.ErrSyntax},
	} {
		wantError(t, x.s, x.at, x.err)
	}
}
