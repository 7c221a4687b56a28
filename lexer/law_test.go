package lexer_test

import (
	"math/rand"
	"regexp"
	"slices"
	"strconv"
	"strings"
	"testing"

	"clusterlocks/api"
	"clusterlocks/lexer"
)

var (
	blankPattern  = regexp.MustCompile(`^[\x09\x0a\x0d\x20]*`)
	tokenPattern  = regexp.MustCompile(`^(?:([a-z][a-z0-9_-]*)|([A-Z]+)|([0-9]+)|([(),:*]))`)
	numberPattern = regexp.MustCompile(`^(?:0|[1-9][0-9]{0,3})$`)
)

// expected finds the results of Tokens in another way, for texts of at most MaxText bytes.
func expected(s string) ([]api.Token, int, api.Errno) {
	var out []api.Token
	for at := 0; ; {
		at += len(blankPattern.FindString(s[at:]))
		if at == len(s) {
			return append(out, end(at)), 0, api.OK
		}
		part := tokenPattern.FindStringSubmatch(s[at:])
		switch {
		case part == nil:
			return nil, at, api.ErrSyntax
		case len(part[1]) > 12:
			return nil, at, api.ErrName
		case part[1] != "":
			out = append(out, name(part[1], at))
		case slices.Contains(modes, part[2]):
			out = append(out, modeToken(part[2], at))
		case part[2] != "":
			return nil, at, api.ErrSyntax
		case part[4] != "":
			out = append(out, punct(part[4], at))
		case !numberPattern.MatchString(part[3]):
			return nil, at, api.ErrSyntax
		default:
			n, _ := strconv.Atoi(part[3])
			out = append(out, number(n, at))
		}
		at += len(part[0])
	}
}

// texts calls f with all texts of up to four bytes of a few that stand for all kinds, with all texts of two bytes, and with long ones that are put together from pieces.
func texts(f func(s string)) {
	const kinds = "af09_-SIXZ(:, \n;\xc3"
	list := []string{""}
	for i := 0; len(list[i]) < 4; i++ {
		f(list[i])
		for j := range len(kinds) {
			list = append(list, list[i]+kinds[j:j+1])
		}
	}
	for _, s := range list {
		if len(s) == 4 {
			f(s)
		}
	}
	for i := range 1 << 16 {
		f(string([]byte{byte(i >> 8), byte(i)}))
	}
	pieces := []string{"a", "b-1", "all", "limit", "abcdefghijk", "lmno", "_", "-", "S", "I", "X", "SIX", "Y", "0", "7", "10", "99", "(", ")", ",", ":", "*", " ", " ", "\t", "\n", "\r\n", " ", ".", "\u00e9"}
	random := rand.New(rand.NewSource(6))
	for range 20000 {
		var s strings.Builder
		usable := len(pieces) - random.Intn(4)
		for range random.Intn(60) {
			s.WriteString(pieces[random.Intn(usable)])
			if random.Intn(3) > 0 {
				s.WriteString(" ")
			}
		}
		f(s.String())
	}
}

// P6.1, P6.2: Tokens of texts of all kinds, compared with what regular expressions find.
func TestTokensOfAllKindsOfTexts(t *testing.T) {
	good, bad := 0, 0
	texts(func(s string) {
		want, wantAt, wantErr := expected(s)
		if got, at, err := lexer.Tokens(s); !slices.Equal(got, want) || at != wantAt || err != wantErr {
			t.Errorf("Tokens(%q) = %+v, %d, %d, want %+v, %d, %d", s, got, at, err, want, wantAt, wantErr)
		}
		if wantErr == api.OK {
			good++
		} else {
			bad++
		}
	})
	if good < 10000 || bad < 10000 {
		t.Errorf("%d texts without an error, %d with one", good, bad)
	}
}

// write returns the texts of tokens, one after the other with a separator between each two of them.
func write(l []api.Token, separator string) string {
	var words []string
	for _, token := range l {
		word := token.Text
		if token.Kind == api.TokNumber {
			word = strconv.Itoa(token.Num)
		}
		words = append(words, word)
	}
	return strings.Join(words, separator)
}

// Consequences: tokens that are written with spaces between them have the same tokens again, but for At.
func TestTokensWrittenAgain(t *testing.T) {
	done := 0
	texts(func(s string) {
		want, _, err := lexer.Tokens(s)
		again := write(want, " ")
		if err != api.OK || len(again) > api.MaxText {
			return
		}
		got, at, err := lexer.Tokens(again)
		for i := range got {
			got[i].At = 0
		}
		for i := range want {
			want[i].At = 0
		}
		if !slices.Equal(got, want) || at != 0 || err != api.OK {
			t.Errorf("Tokens(%q) = %+v, %d, %d, want %+v", again, got, at, err, want)
		}
		done++
	})
	if done < 10000 {
		t.Errorf("only %d texts", done)
	}
}

// P6.1: the offsets of tokens ascend, at each of them stands what the token says, and between tokens stands space only.
func TestTokensCoverTheirText(t *testing.T) {
	texts(func(s string) {
		l, _, err := lexer.Tokens(s)
		if err != api.OK {
			return
		}
		at := 0
		for _, token := range l {
			word := write([]api.Token{token}, "")
			if token.At < at || strings.Trim(s[at:token.At], " \t\r\n") != "" || !strings.HasPrefix(s[token.At:], word) {
				t.Errorf("Tokens(%q): %+v", s, token)
				return
			}
			at = token.At + len(word)
		}
		if at != len(s) {
			t.Errorf("Tokens(%q) ends at %d", s, at)
		}
	})
}

// R2, R5: a second call has the same result, which does not change with the first one.
func TestResultsAreNew(t *testing.T) {
	for _, s := range []string{"", "a", "any(a:X, p*2) limit 9"} {
		first, _, _ := lexer.Tokens(s)
		second, _, _ := lexer.Tokens(s)
		want := slices.Clone(second)
		for i := range first {
			first[i] = api.Token{Kind: 9, Text: "changed", Num: 9, At: 9}
		}
		_ = append(first, api.Token{})
		wantTokens(t, s, want...)
		if !slices.Equal(second, want) {
			t.Errorf("the results of Tokens(%q) share memory: %+v", s, second)
		}
	}
}

// P6.1, P6.2: the chapter's examples.
func TestExamples(t *testing.T) {
	wantTokens(t, "2 of(a:S)", number(2, 0), name("of", 2), punct("(", 4), name("a", 5), punct(":", 6), modeToken("S", 7), punct(")", 8), end(9))
	wantError(t, "a:Z", 2, api.ErrSyntax)
	wantError(t, "00", 0, api.ErrSyntax)
}
