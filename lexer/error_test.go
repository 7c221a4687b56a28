package lexer_test

import (
	"slices"
	"strconv"
	"strings"
	"testing"

	"clusterlocks/api"
	"clusterlocks/lexer"
)

// wantError reports it if s has tokens, or not this error at this offset.
func wantError(t *testing.T, s string, at int, err api.Errno) {
	t.Helper()
	if got, gotAt, gotErr := lexer.Tokens(s); len(got) != 0 || gotAt != at || gotErr != err {
		t.Errorf("Tokens(%.60q) = %+v, %d, %d, want %d, %d", s, got, gotAt, gotErr, at, err)
	}
}

// P6.2: a text of more than MaxText bytes is too long, whatever it contains, also if it has an error early; one of MaxText bytes is not.
func TestTooLong(t *testing.T) {
	for _, unit := range []string{"a", ";", " ", "(", "0", "Z", "\x00", "\u00e9", "a:X ", "abcdefghijklm ", "9999 "} {
		long := strings.Repeat(unit, 4000)
		for _, n := range []int{1025, 1026, 1100, 2048, 4000, len(long)} {
			wantError(t, long[:n], 0, api.ErrTooLong)
		}
		if _, _, err := lexer.Tokens(long[:1024]); err == api.ErrTooLong {
			t.Errorf("1024 bytes of %q are too long", unit)
		}
	}
	wantError(t, "a"+strings.Repeat(" ", 1024), 0, api.ErrTooLong)
	wantError(t, strings.Repeat(" ", 1024)+"\n", 0, api.ErrTooLong)
}

// P6.2: a word of more than MaxName bytes, up to the longest one, with the offset at which it begins.
func TestLongWords(t *testing.T) {
	for length := 13; length <= 1000; length++ {
		wantError(t, strings.Repeat("a", length), 0, api.ErrName)
	}
	for _, w := range []string{"abcdefghijklm", "a-----------_", "z999999999999", "limitlimitlimit", "all-all-all-all"} {
		wantError(t, w, 0, api.ErrName)
		wantError(t, "\t"+w, 1, api.ErrName)
		wantError(t, w+" ", 0, api.ErrName)
		wantError(t, "a:X, "+w+":S", 5, api.ErrName)
		wantError(t, "9"+w, 1, api.ErrName)
		wantError(t, strings.Repeat(" ", 1024-len(w))+w, 1024-len(w), api.ErrName)
	}
}

// P6.2: all capitals of up to three letters, and longer ones, are an error unless they are the name of a mode.
func TestCapitals(t *testing.T) {
	words := []string{""}
	for i := 0; len(words[i]) < 3; i++ {
		for c := 'A'; c <= 'Z'; c++ {
			words = append(words, words[i]+string(c))
		}
	}
	words = append(words[1:], "SIXS", "SSIX", "SIXX", "ISIX", "XXXX", "SIXSIX", "EXCLUSIVE", strings.Repeat("S", 1024))
	for _, w := range words {
		if slices.Contains(modes, w) {
			wantTokens(t, w, modeToken(w, 0), end(len(w)))
			continue
		}
		wantError(t, w, 0, api.ErrSyntax)
		if len(w) < 1000 {
			wantError(t, "a:"+w+",b:X", 2, api.ErrSyntax)
		}
	}
}

// P6.2: more than four digits are an error, also where their value would become small if it were cut to fewer bits.
func TestManyDigits(t *testing.T) {
	for _, s := range []string{
		"10000", "10001", "12345", "65536", "99999", "100000", "999999", "4294967296", "4294967297", "9223372036854775807", "9223372036854775808",
		"18446744073709551616", "18446744073709551617", "340282366920938463463374607431768211457", "1" + strings.Repeat("0", 1000), strings.Repeat("9", 1000),
	} {
		wantError(t, s, 0, api.ErrSyntax)
		wantError(t, "a "+s, 2, api.ErrSyntax)
		wantError(t, "p*"+s+"a", 2, api.ErrSyntax)
		wantError(t, " 1 "+s+")", 3, api.ErrSyntax)
	}
}

// P6.2: more than one digit with a leading 0 are an error.
func TestLeadingZeros(t *testing.T) {
	for n := range 1000 {
		for _, zeros := range []string{"0", "00", "000", "0000"} {
			wantError(t, zeros+strconv.Itoa(n), 0, api.ErrSyntax)
		}
	}
	wantError(t, strings.Repeat("0", 1024), 0, api.ErrSyntax)
	wantError(t, "p*01", 2, api.ErrSyntax)
	wantError(t, "0 00 0", 2, api.ErrSyntax)
}

// P6.2: every byte that is no space and with which no token begins is an error wherever it stands, but for "_" and "-" in a word.
func TestOtherBytes(t *testing.T) {
	const others = "abcdefghijklmnopqrstuvwxyzABCDEFGHIJKLMNOPQRSTUVWXYZ0123456789(),:* \t\n\r"
	for c := range 256 {
		s := string([]byte{byte(c)})
		if strings.Contains(others, s) {
			continue
		}
		wantError(t, s, 0, api.ErrSyntax)
		wantError(t, s+"a", 0, api.ErrSyntax)
		wantError(t, "1"+s+"2", 1, api.ErrSyntax)
		wantError(t, "X"+s, 1, api.ErrSyntax)
		wantError(t, "( "+s+" )", 2, api.ErrSyntax)
		if c != '_' && c != '-' {
			wantError(t, "a"+s+"b", 1, api.ErrSyntax)
			wantError(t, "abcdefghijkl"+s, 12, api.ErrSyntax)
		}
	}
	for _, s := range []string{"\u00e9", "\u0430", "\uff41", "\u0661", "\u00a0", "\u2003", "\v", "\f", "\ufeffa", "_a", "-1", "+1", "--", "\"a\"", "'", ";", "=", "[", "{", "#a"} {
		wantError(t, s, 0, api.ErrSyntax)
		wantError(t, "a "+s, 2, api.ErrSyntax)
	}
}

// P6.2: of several errors the first one from left to right is returned, of whatever kind.
func TestFirstError(t *testing.T) {
	wrong := map[string]api.Errno{"abcdefghijklm": api.ErrName, "Z": api.ErrSyntax, "SIXS": api.ErrSyntax, "10000": api.ErrSyntax, "00": api.ErrSyntax, ";": api.ErrSyntax, "\x80": api.ErrSyntax}
	for first, err := range wrong {
		for second := range wrong {
			wantError(t, first+" "+second, 0, err)
			wantError(t, "all(a:X, "+first+" "+second+")", 9, err)
			wantError(t, " "+first+"\n"+strings.Repeat(second+" ", 3), 1, err)
		}
	}
	wantError(t, strings.Repeat("(", 1023)+";", 1023, api.ErrSyntax)
	wantError(t, strings.Repeat(" ", 1022)+"Z;", 1022, api.ErrSyntax)
}
