package mode_test

import (
	"strings"
	"testing"

	"clusterlocks/api"
	"clusterlocks/mode"
)

// names are the names of the modes.
var names = map[int]string{api.IS: "IS", api.IX: "IX", api.S: "S", api.SIX: "SIX", api.X: "X"}

// P3.4: Format returns the names of the modes, and an empty string for other numbers.
func TestFormat(t *testing.T) {
	for _, m := range everyNumber() {
		if got := mode.Format(m); got != names[m] {
			t.Errorf("Format(%d) = %q, want %q", m, got, names[m])
		}
	}
}

// P3.4: Parse returns the mode of each name.
func TestParse(t *testing.T) {
	for _, m := range modes {
		if got, ok := mode.Parse(names[m]); got != m || !ok {
			t.Errorf("Parse(%q) = %d, %t", names[m], got, ok)
		}
	}
}

// P3.4: Parse returns 0 and false for other texts.
func TestParseRefuses(t *testing.T) {
	texts := []string{
		"", " ", "\x00", "-", "*", "0", "1", "5", "I", "XX", "SS", "XI", "SI", "ISX", "IXS", "SIXX", "IS ", " IS", "X\n", "\tX", "S\x00",
		"is", "Is", "iS", "ix", "Ix", "s", "six", "Six", "SIx", "x", "IS,IX", "S IX", "S-IX", "S+IX",
		"\u0405", "\u0425", "\u2169", "\uff33", "\xff", "\xd8", "S\u0301",
		strings.Repeat("X", 5000), strings.Repeat("S", 5000), "SIX" + strings.Repeat(" ", 5000),
	}
	for _, s := range texts {
		if got, ok := mode.Parse(s); got != 0 || ok {
			t.Errorf("Parse(%.40q) = %d, %t", s, got, ok)
		}
	}
}

// P3.4: whatever byte is put in, replaced or removed, Parse accepts names only.
func TestParseOfChangedNames(t *testing.T) {
	byName := map[string]int{}
	for m, name := range names {
		byName[name] = m
	}
	check := func(s string) {
		want, found := byName[s]
		if got, ok := mode.Parse(s); got != want || ok != found {
			t.Errorf("Parse(%q) = %d, %t, want %d, %t", s, got, ok, want, found)
		}
	}
	for _, name := range names {
		for i := range len(name) {
			check(name[:i] + name[i+1:])
			for c := range 256 {
				b := string([]byte{byte(c)})
				check(name[:i] + b + name[i:])
				check(name[:i] + b + name[i+1:])
				check(name + b)
			}
		}
	}
}
