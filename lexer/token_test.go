package lexer_test

import (
	"slices"
	"strconv"
	"strings"
	"testing"

	"clusterlocks/api"
	"clusterlocks/lexer"
)

// modes are the names of the modes, in the order of their numbers.
var modes = []string{"IS", "IX", "S", "SIX", "X"}

// name returns the token of a word.
func name(text string, at int) api.Token {
	return api.Token{Kind: api.TokName, Text: text, At: at}
}

// modeToken returns the token of a mode's name.
func modeToken(text string, at int) api.Token {
	return api.Token{Kind: api.TokMode, Text: text, Num: slices.Index(modes, text) + 1, At: at}
}

// number returns the token of digits.
func number(n, at int) api.Token {
	return api.Token{Kind: api.TokNumber, Num: n, At: at}
}

// punct returns the token of a punctuation mark.
func punct(text string, at int) api.Token {
	return api.Token{Kind: api.TokPunct, Text: text, At: at}
}

// end returns the last token of a text of this length.
func end(at int) api.Token {
	return api.Token{Kind: api.TokEnd, At: at}
}

// wantTokens reports it if s has not exactly these tokens.
func wantTokens(t *testing.T, s string, want ...api.Token) {
	t.Helper()
	if got, at, err := lexer.Tokens(s); !slices.Equal(got, want) || at != 0 || err != api.OK {
		t.Errorf("Tokens(%.60q) = %+v, %d, %d, want %+v", s, got, at, err, want)
	}
}

// P6.1: requests of all sorts, and texts that are no requests but have tokens.
func TestTokens(t *testing.T) {
	wantTokens(t, "a:X", name("a", 0), punct(":", 1), modeToken("X", 2), end(3))
	wantTokens(t, "p*2", name("p", 0), punct("*", 1), number(2, 2), end(3))
	wantTokens(t, "any(a:X, p*2) limit 9",
		name("any", 0), punct("(", 3), name("a", 4), punct(":", 5), modeToken("X", 6), punct(",", 7),
		name("p", 9), punct("*", 10), number(2, 11), punct(")", 12), name("limit", 14), number(9, 20), end(21))
	wantTokens(t, "all(b:SIX,c-1:IX)\tprio 7\n",
		name("all", 0), punct("(", 3), name("b", 4), punct(":", 5), modeToken("SIX", 6), punct(",", 9),
		name("c-1", 10), punct(":", 13), modeToken("IX", 14), punct(")", 16), name("prio", 18), number(7, 23), end(25))
	wantTokens(t, "))(:*, 0 IS of",
		punct(")", 0), punct(")", 1), punct("(", 2), punct(":", 3), punct("*", 4), punct(",", 5), number(0, 7), modeToken("IS", 9), name("of", 12), end(14))
}

// P6.1: a text without tokens has only its end, behind all space.
func TestTokensOfNothing(t *testing.T) {
	wantTokens(t, "", end(0))
	for _, space := range []string{" ", "\t", "\n", "\r", " \t\n\r", "\r\n\r\n", strings.Repeat(" ", 1024)} {
		wantTokens(t, space, end(len(space)))
	}
}

// P6.1: words of every length up to MaxName, all bytes of words, and the reserved words, which are names here.
func TestWords(t *testing.T) {
	for length := 1; length <= 12; length++ {
		for _, w := range []string{"abcdefghijkl"[:length], "mnopqrstuvwx"[:length], "yz0123456789"[:length], "z_-_-_-_-_-_"[:length], "a-----------"[:length]} {
			wantTokens(t, w, name(w, 0), end(length))
			wantTokens(t, " "+w+" 1", name(w, 1), number(1, length+2), end(length+3))
		}
	}
	for _, w := range []string{"all", "any", "of", "prio", "limit", "lock", "pool", "at", "x", "is", "six"} {
		wantTokens(t, w, name(w, 0), end(len(w)))
	}
}

// P6.1: the name of each mode, with its number.
func TestModes(t *testing.T) {
	for i, m := range []struct {
		text string
		n    int
	}{{"IS", api.IS}, {"IX", api.IX}, {"S", api.S}, {"SIX", api.SIX}, {"X", api.X}} {
		want := api.Token{Kind: api.TokMode, Text: m.text, Num: m.n, At: i}
		wantTokens(t, strings.Repeat(" ", i)+m.text, want, end(i+len(m.text)))
	}
}

// P6.1: every number of one to four digits; its Text is empty.
func TestNumbers(t *testing.T) {
	for n := range 10000 {
		s := strconv.Itoa(n)
		wantTokens(t, s, number(n, 0), end(len(s)))
	}
}

// P6.1: each punctuation mark is a token, however many stand together.
func TestPunctuation(t *testing.T) {
	for _, c := range []string{"(", ")", ",", ":", "*"} {
		wantTokens(t, c, punct(c, 0), end(1))
		wantTokens(t, c+c+c, punct(c, 0), punct(c, 1), punct(c, 2), end(3))
		wantTokens(t, " "+c+"\n"+c, punct(c, 1), punct(c, 3), end(4))
	}
	wantTokens(t, "(),:*", punct("(", 0), punct(")", 1), punct(",", 2), punct(":", 3), punct("*", 4), end(5))
}

// P6.1: each kind of space, and much of it, may stand ahead of tokens, between them and behind them, and counts in their offsets.
func TestSpaceIsSkipped(t *testing.T) {
	for _, space := range []string{" ", "\t", "\n", "\r", "  ", "\r\n", " \t\r\n ", strings.Repeat("\n ", 100)} {
		n := len(space)
		wantTokens(t, space+"a", name("a", n), end(n+1))
		wantTokens(t, "a"+space, name("a", 0), end(n+1))
		wantTokens(t, "a"+space+"a", name("a", 0), name("a", n+1), end(n+2))
		wantTokens(t, "S"+space+"IX", modeToken("S", 0), modeToken("IX", n+1), end(n+3))
		wantTokens(t, "1"+space+"2", number(1, 0), number(2, n+1), end(n+2))
		wantTokens(t, "0"+space+"0", number(0, 0), number(0, n+1), end(n+2))
		wantTokens(t, space+"("+space+"*"+space, punct("(", n), punct("*", 2*n+1), end(3*n+2))
	}
}

// P6.1: tokens that touch each other are separated where the first one cannot go on.
func TestTokensTouch(t *testing.T) {
	wantTokens(t, "aX", name("a", 0), modeToken("X", 1), end(2))
	wantTokens(t, "Xa", modeToken("X", 0), name("a", 1), end(2))
	wantTokens(t, "SaS", modeToken("S", 0), name("a", 1), modeToken("S", 2), end(3))
	wantTokens(t, "2of", number(2, 0), name("of", 1), end(3))
	wantTokens(t, "2X3", number(2, 0), modeToken("X", 1), number(3, 2), end(3))
	wantTokens(t, "a2", name("a2", 0), end(2))
	wantTokens(t, "a00", name("a00", 0), end(3))
	wantTokens(t, "a10000", name("a10000", 0), end(6))
	wantTokens(t, "0a", number(0, 0), name("a", 1), end(2))
	wantTokens(t, "0X0", number(0, 0), modeToken("X", 1), number(0, 2), end(3))
	wantTokens(t, "a-1_b*0,SIX9999", name("a-1_b", 0), punct("*", 5), number(0, 6), punct(",", 7), modeToken("SIX", 8), number(9999, 11), end(15))
	wantTokens(t, "abcdefghijklSIX", name("abcdefghijkl", 0), modeToken("SIX", 12), end(15))
	wantTokens(t, "prio7limit9", name("prio7limit9", 0), end(11))
}

// P6.1: a text of MaxText bytes has all its tokens, as many as it may be.
func TestTokensOfLongTexts(t *testing.T) {
	for _, unit := range [][]api.Token{
		{punct("(", 0), end(1)},
		{name("a", 0), end(2)},
		{modeToken("X", 0), number(1, 1), end(2)},
		{number(999, 0), punct(",", 3), end(4)},
		{name("abcdefghijkl", 0), modeToken("SIX", 12), number(9, 15), end(16)},
	} {
		last := len(unit) - 1
		length := unit[last].At
		part := write(unit[:last], "") + " " // the space is cut off where the tokens stay apart without it
		var want []api.Token
		for at := 0; at < 1024; at += length {
			for _, token := range unit[:last] {
				token.At += at
				want = append(want, token)
			}
		}
		wantTokens(t, strings.Repeat(part[:length], 1024/length), append(want, end(1024))...)
	}
}

// P6.3: space is the bytes 9, 10, 13 and 32.
func TestSpace(t *testing.T) {
	for c := range 256 {
		want := c == 9 || c == 10 || c == 13 || c == 32
		if got := lexer.Space(byte(c)); got != want {
			t.Errorf("Space(%d) = %t", c, got)
		}
	}
}
