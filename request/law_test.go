package request_test

import (
	"math/rand"
	"slices"
	"strconv"
	"strings"
	"testing"

	"clusterlocks/api"
	"clusterlocks/lexer"
	"clusterlocks/request"
)

// open is a group whose bracket is not closed yet: its word or number, the offset of that, and the kids so far.
type open struct {
	word string
	n    int
	at   int
	kids []api.Expr
}

// automaton finds the results of Parse in another way: it takes one token after the other, and keeps a stack of the groups that are open. Its state says what the token must be.
type automaton struct {
	state   string
	stack   []open
	nodes   int
	amounts map[string]api.Amount
	name    api.Token
	out     api.Request
}

// expected returns what Parse should return.
func expected(s string) (api.Request, int, api.Errno) {
	l, at, err := lexer.Tokens(s)
	if err != api.OK {
		return api.Request{}, at, err
	}
	m := automaton{state: "expression", amounts: map[string]api.Amount{}}
	for _, token := range l {
		if at, err := m.step(token); err != api.OK {
			return api.Request{}, at, err
		}
	}
	return m.out, 0, api.OK
}

// step takes a token.
func (m *automaton) step(token api.Token) (int, api.Errno) {
	reserved := slices.Contains(noNames[:5], token.Text)
	switch what := token.Text; {
	case m.state == "expression" && (token.Kind == api.TokNumber || token.Kind == api.TokName && (!reserved || what == "all" || what == "any")):
		m.nodes++
		if m.nodes > 24 || len(m.stack) > 3 {
			return token.At, api.ErrTooMany
		}
		switch {
		case token.Kind == api.TokNumber:
			m.stack, m.state = append(m.stack, open{word: "of", n: token.Num, at: token.At}), "of"
		case reserved:
			m.stack, m.state = append(m.stack, open{word: what, at: token.At}), "("
		default:
			m.name, m.state = token, "mark"
		}
	case m.state == "of" && what == "of":
		m.state = "("
	case m.state == "(" && what == "(":
		m.state = "expression"
	case m.state == "mark" && (what == ":" || what == "*"):
		m.state = what
	case m.state == ":" && token.Kind == api.TokMode:
		return m.atom(api.Amount{Mode: token.Num})
	case m.state == "*" && token.Kind == api.TokNumber:
		if token.Num < 1 || token.Num > 8 {
			return token.At, api.ErrAmount
		}
		return m.atom(api.Amount{Units: token.Num})
	case m.state == "behind" && len(m.stack) > 0 && what == ",":
		m.state = "expression"
	case m.state == "behind" && len(m.stack) > 0 && what == ")":
		return m.closed()
	case m.state == "behind" && len(m.stack) == 0 && what == "prio":
		m.state = "prio"
	case (m.state == "behind" && len(m.stack) == 0 || m.state == "behind prio") && what == "limit":
		m.state = "limit"
	case m.state == "prio" && token.Kind == api.TokNumber:
		m.out.Priority, m.state = token.Num, "behind prio"
		if token.Num > 7 {
			return token.At, api.ErrArg
		}
	case m.state == "limit" && token.Kind == api.TokNumber:
		m.out.Limit, m.state = token.Num, "behind limit"
		if token.Num > 1000 {
			return token.At, api.ErrArg
		}
	case strings.HasPrefix(m.state, "behind") && len(m.stack) == 0 && token.Kind == api.TokEnd:
		m.state = "done"
	default:
		return token.At, api.ErrSyntax
	}
	return 0, api.OK
}

// atom ends the atom whose name has been met.
func (m *automaton) atom(a api.Amount) (int, api.Errno) {
	name := m.name.Text
	if known, ok := m.amounts[name]; ok && known != a {
		return m.name.At, api.ErrConflict
	}
	m.amounts[name] = a
	if len(m.amounts) > 8 {
		return m.name.At, api.ErrTooMany
	}
	m.ended(atom(name, a.Mode, a.Units))
	return 0, api.OK
}

// closed ends the innermost group.
func (m *automaton) closed() (int, api.Errno) {
	last := len(m.stack) - 1
	g := m.stack[last]
	m.stack = m.stack[:last]
	switch g.word {
	case "all":
		g.n = len(g.kids)
	case "any":
		g.n = 1
	default:
		if g.n < 1 || g.n > len(g.kids) {
			return g.at, api.ErrArg
		}
	}
	m.ended(group(g.n, g.kids...))
	return 0, api.OK
}

// ended puts an expression where it belongs.
func (m *automaton) ended(e api.Expr) {
	m.state = "behind"
	if len(m.stack) == 0 {
		m.out.Expr = e
		return
	}
	top := &m.stack[len(m.stack)-1]
	top.kids = append(top.kids, e)
}

// tally counts the texts that have each error.
type tally map[api.Errno]int

// wantExpected reports it if Parse does not return what the automaton returns.
func (c tally) wantExpected(t *testing.T, s string) {
	t.Helper()
	want, wantAt, wantErr := expected(s)
	if got, at, err := request.Parse(s); !sameRequest(got, want) || at != wantAt || err != wantErr {
		t.Errorf("Parse(%q) = %+v, %d, %d, want %+v, %d, %d", s, got, at, err, want, wantAt, wantErr)
	}
	c[wantErr]++
}

// wantAll reports it if one of these errors is met too seldom for the comparison to mean much.
func (c tally) wantAll(t *testing.T, least int, errors ...api.Errno) {
	t.Helper()
	for _, err := range errors {
		if c[err] < least {
			t.Errorf("only %d texts with the error %d", c[err], err)
		}
	}
}

// P7.2: all texts of tokens up to a number of them that a text may begin with, each with each token behind it.
func TestAllShortTexts(t *testing.T) {
	words := []string{"a", "b", "all", "any", "of", "prio", "limit", "S", "X", "0", "1", "2", "9", "(", ")", ",", ":", "*"}
	c := tally{}
	beginnings := []string{""}
	for i := 0; i < len(beginnings) && i < 8000; i++ {
		c.wantExpected(t, beginnings[i])
		for _, w := range words {
			s := beginnings[i] + w + " "
			c.wantExpected(t, s)
			if _, at, err := expected(s); err == api.OK || err == api.ErrSyntax && at == len(s) {
				beginnings = append(beginnings, s)
			}
		}
	}
	if len(beginnings) < 8000 {
		t.Errorf("only %d beginnings", len(beginnings))
	}
	c.wantAll(t, 100, api.OK, api.ErrSyntax, api.ErrAmount, api.ErrArg)
}

// randomAtom returns an atom: most often the same one for each name.
func randomAtom(random *rand.Rand) api.Expr {
	name := "abcdefghij"[random.Intn(10):][:1]
	m := int(name[0])%13 + 1
	if random.Intn(60) == 0 {
		m = random.Intn(13) + 1
	}
	if m <= 5 {
		return lock(name, m)
	}
	return pool(name, m-5)
}

// randomExpr returns an expression of at most this depth. Some have too many nodes, or atoms of one name that differ.
func randomExpr(random *rand.Rand, depth int) api.Expr {
	if depth == 1 || random.Intn(5) < 2 {
		return randomAtom(random)
	}
	var kids []api.Expr
	for len(kids) == 0 || random.Intn(7) < 4 {
		kids = append(kids, randomExpr(random, depth-1))
	}
	return group(1+random.Intn(len(kids)), kids...)
}

// write returns the tokens of a text that means e; "1 of" and the like may stand for the words.
func write(random *rand.Rand, e api.Expr) []string {
	if len(e.Kids) == 0 {
		a := e.Atom.Amount
		if a.Units > 0 {
			return []string{e.Atom.Name, "*", strconv.Itoa(a.Units)}
		}
		return []string{e.Atom.Name, ":", []string{"", "IS", "IX", "S", "SIX", "X"}[a.Mode]}
	}
	out := []string{strconv.Itoa(e.K), "of"}
	switch {
	case random.Intn(3) == 0:
	case e.K == len(e.Kids):
		out = []string{"all"}
	case e.K == 1:
		out = []string{"any"}
	}
	separator := "("
	for _, kid := range e.Kids {
		out = append(append(out, separator), write(random, kid)...)
		separator = ","
	}
	return append(out, ")")
}

// randomWords returns the tokens of a request's text.
func randomWords(random *rand.Rand) []string {
	out := write(random, randomExpr(random, 4+random.Intn(20)/19))
	if random.Intn(3) == 0 {
		out = append(out, "prio", strconv.Itoa(random.Intn(9)))
	}
	if random.Intn(3) == 0 {
		out = append(out, "limit", strconv.Itoa(random.Intn(1050)))
	}
	return out
}

// spaced returns the words with random space between them.
func spaced(random *rand.Rand, words []string) string {
	var s strings.Builder
	for _, w := range words {
		s.WriteString(w + []string{" ", " ", "\n", "\t ", "  ", " \r\n \r\n     "}[random.Intn(6)])
	}
	return s.String()
}

// P7.2: texts of random requests, as they are and with a few tokens changed, compared with what the automaton returns.
func TestRandomTexts(t *testing.T) {
	words := []string{"a", "b", "k", "all", "any", "of", "prio", "limit", "IS", "X", "0", "1", "2", "3", "9", "24", "(", ")", ",", ":", "*", "$", "00"}
	random := rand.New(rand.NewSource(7))
	c := tally{}
	for range 30000 {
		l := randomWords(random)
		c.wantExpected(t, spaced(random, l))
		for range 1 + random.Intn(2) {
			at := random.Intn(len(l))
			switch random.Intn(4) {
			case 0:
				l = slices.Delete(l, at, at+1)
			case 1:
				l = slices.Insert(l, at, words[random.Intn(len(words))])
			case 2:
				l[at] = words[random.Intn(len(words))]
			default:
				l = append(l[:at:at], randomWords(random)...)
			}
			if len(l) == 0 {
				break
			}
		}
		c.wantExpected(t, spaced(random, l))
	}
	c.wantAll(t, 100, api.OK, api.ErrSyntax, api.ErrAmount, api.ErrArg, api.ErrConflict, api.ErrTooMany, api.ErrTooLong)
}

// size returns the number of nodes and the depth of any finite expression.
func size(e api.Expr) (int, int) {
	nodes, depth := 1, 0
	for _, kid := range e.Kids {
		n, d := size(kid)
		nodes += n
		depth = max(depth, d)
	}
	return nodes, depth + 1
}

// proper reports whether all nodes are atoms or groups and all atoms of a name are the same, and puts these into amounts.
func proper(e api.Expr, amounts map[string]api.Amount) bool {
	name, a := e.Atom.Name, e.Atom.Amount
	if len(e.Kids) == 0 {
		known, ok := amounts[name]
		amounts[name] = a
		fits := a.Mode >= 1 && a.Mode <= 5 && a.Units == 0 || a.Mode == 0 && a.Units >= 1 && a.Units <= 8
		return e.K == 0 && !slices.Contains(noNames, name) && fits && (!ok || known == a)
	}
	good := e.Atom == api.Atom{} && e.K >= 1 && e.K <= len(e.Kids)
	for _, kid := range e.Kids {
		good = proper(kid, amounts) && good
	}
	return good
}

// spoilt returns a copy of e in which, now and then, a node is changed.
func spoilt(random *rand.Rand, e api.Expr) api.Expr {
	kids := slices.Clone(e.Kids)
	for i := range kids {
		kids[i] = spoilt(random, kids[i])
	}
	e.Kids = kids
	number := numbers[random.Intn(len(numbers))]
	switch random.Intn(200) {
	case 0:
		e.K = number
	case 1:
		e.Atom.Name = noNames[random.Intn(len(noNames))]
	case 2:
		e.Atom.Amount.Mode = number
	case 3:
		e.Atom.Amount.Units = number
	case 4:
		e.Kids = nil
	case 5:
		e.Kids = append(e.Kids, lock("a", api.S))
	}
	return e
}

// P7.1, P7.3: random expressions, many of them with a flaw, compared with what is found by a walk without limits and a map.
func TestRandomExpressions(t *testing.T) {
	random := rand.New(rand.NewSource(71))
	valid, beyond, flawed := 0, 0, 0
	for range 50000 {
		e := spoilt(random, randomExpr(random, 4+random.Intn(10)/9))
		nodes, depth := size(e)
		amounts := map[string]api.Amount{}
		good := proper(e, amounts) && len(amounts) <= 8
		switch {
		case nodes > 24 || depth > 4:
			nodes, depth, good = 0, 0, false
			beyond++
		case good:
			valid++
		default:
			flawed++
		}
		wantSize(t, e, nodes, depth)
		wantValid(t, e, good)
	}
	if valid < 1000 || beyond < 1000 || flawed < 1000 {
		t.Errorf("%d valid expressions, %d beyond the limits, %d others", valid, beyond, flawed)
	}
}

// Consequences: Parse returns the request whose text Format has written.
func TestParseOfFormat(t *testing.T) {
	random := rand.New(rand.NewSource(72))
	done := 0
	for range 50000 {
		r := api.Request{Expr: randomExpr(random, 4), Priority: random.Intn(8), Limit: random.Intn(1001) * random.Intn(2)}
		if !request.Valid(r) {
			continue
		}
		wantRequest(t, request.Format(r), r)
		wantExpr(t, request.FormatExpr(r.Expr), r.Expr)
		done++
	}
	if done < 10000 {
		t.Errorf("only %d requests", done)
	}
}

// Consequences: this holds for the longest texts of valid requests, too.
func TestParseOfLongFormat(t *testing.T) {
	var l []api.Expr
	for i := range 20 {
		l = append(l, lock("abcdefghijk"+string(rune('a'+i%8)), api.SIX))
	}
	r := api.Request{Expr: all(group(1, group(19, l...), l[0])), Priority: 7, Limit: 1000}
	text := request.Format(r)
	if len(text) < 380 || len(text) > api.MaxText {
		t.Errorf("%d bytes: %q", len(text), text)
	}
	wantRequest(t, text, r)
}

// Consequences: Format of what Parse returns has the same meaning, and is its own canonical text; it differs from the text at most in space and in the words of groups, and in settings of 0.
func TestCanonicalText(t *testing.T) {
	random := rand.New(rand.NewSource(73))
	done := 0
	for range 30000 {
		words := randomWords(random)
		r, _, err := request.Parse(spaced(random, words))
		if err != api.OK {
			continue
		}
		if !request.Valid(r) {
			t.Errorf("Parse of %q returns %+v", words, r)
		}
		text := request.Format(r)
		again, at, err := request.Parse(text)
		if !sameRequest(again, r) || at != 0 || err != api.OK || request.Format(again) != text {
			t.Errorf("%q of %q means %+v, %d, %d, want %+v", text, words, again, at, err, r)
		}
		done++
	}
	if done < 10000 {
		t.Errorf("only %d texts", done)
	}
	for text, want := range map[string]string{
		"any(a:S)": "all(a:S)", "1of(a:S)": "all(a:S)", "1 of (a:S,b:S)": "any(a:S, b:S)", "2 of (a:S,b:S)": "all(a:S, b:S)", "2 of(a:S,b:S,c:S)": "2 of (a:S, b:S, c:S)",
		"a:S prio 0": "a:S", "a:S limit 0": "a:S", "a:S prio 0 limit 0": "a:S", "a:S prio 0 limit 1": "a:S limit 1", " a : S prio 1\nlimit 0": "a:S prio 1", "p *\t8": "p*8",
	} {
		r, _, _ := request.Parse(text)
		if got := request.Format(r); got != want {
			t.Errorf("the canonical text of %q is %q, want %q", text, got, want)
		}
	}
}

// P7.2, P7.3: the chapter's examples.
func TestExamples(t *testing.T) {
	r := api.Request{Expr: group(1, lock("a", api.X), pool("p", 2)), Limit: 9}
	wantRequest(t, "any(a:X,p*2) limit 9", r)
	if got := request.Format(r); got != "any(a:X, p*2) limit 9" {
		t.Errorf("Format = %q", got)
	}
	wantError(t, "all(a:S, a:X)", 9, api.ErrConflict)
	wantError(t, "3 of (a:S, b:S)", 0, api.ErrArg)
}
