package ident_test

import (
	"strconv"
	"strings"
	"testing"

	"clusterlocks/api"
	"clusterlocks/ident"
)

// P2.2: FormatProc returns the three numbers of a valid process, separated by points.
func TestFormatProc(t *testing.T) {
	table := []struct {
		p    api.Proc
		want string
	}{
		{proc(2, 1, 5), "2.1.5"},
		{proc(0, 1, 1), "0.1.1"},
		{proc(0, 10, 100), "0.10.100"},
		{proc(3, 99, 999), "3.99.999"},
		{proc(1, 20, 30), "1.20.30"},
	}
	for _, x := range table {
		if got := ident.FormatProc(x.p); got != x.want {
			t.Errorf("FormatProc(%v) = %q, want %q", x.p, got, x.want)
		}
	}
	for _, p := range invalidProcs() {
		if got := ident.FormatProc(p); got != "" {
			t.Errorf("FormatProc(%v) = %q", p, got)
		}
	}
}

// P2.2: ParseProc reads back what FormatProc wrote.
func TestParseProcReadsBack(t *testing.T) {
	for _, p := range validProcs() {
		s := ident.FormatProc(p)
		if want := strconv.Itoa(p.Site) + "." + strconv.Itoa(p.Inc) + "." + strconv.Itoa(p.Num); s != want {
			t.Errorf("FormatProc(%v) = %q", p, s)
		}
		if got, ok := ident.ParseProc(s); got != p || !ok {
			t.Errorf("ParseProc(%q) = %v, %t", s, got, ok)
		}
	}
}

// P2.2: ParseProc returns a zero value and false for a text that FormatProc does not write.
func TestParseProcRefuses(t *testing.T) {
	texts := []string{
		"", ".", "..", "...", "2", "2.1", "2.1.", "2..5", ".1.5", "2.1.5.", ".2.1.5", "2.1.5.1", "2.1.5.1.1", "2.1..5",
		"02.1.5", "2.01.5", "2.1.05", "00.1.1", "2.1.0005",
		"+2.1.5", "2.+1.5", "2.1.+5", "-2.1.5", "-0.1.1", "2.-1.5", "2.1.-5",
		" 2.1.5", "2.1.5 ", "2. 1.5", "2.1.5\n", "\t2.1.5", "2.1.5\x00",
		"2,1,5", "2:1:5", "2-1-5", "2/1/5", "a.b.c", "2.1.5a", "0x2.1.5", "2.1.0x5", "2.1_0.5", "2.1.1_0", "2.1.5e0",
		"4.1.1", "10.1.1", "0.0.1", "0.100.1", "0.1.0", "0.1.1000", "9.9.9", "0.0.0", "999.999.999",
		"0.1.4294967297", "0.4294967297.1", "4294967296.1.1",
		"0.1.18446744073709551617", "18446744073709551616.1.1", "0.18446744073709551617.1", "0.1.9223372036854775808",
		"\u0662.\u0661.\u0665", "2.1.\uff15", "2\u30021\u30025", "\xff.1.1",
		strings.Repeat("1", 5000), "0.1." + strings.Repeat("9", 5000), "0.1." + strings.Repeat("0", 5000) + "1", strings.Repeat(".", 5000), strings.Repeat("1.", 5000),
	}
	for _, s := range texts {
		if got, ok := ident.ParseProc(s); got != (api.Proc{}) || ok {
			t.Errorf("ParseProc(%.40q) = %v, %t", s, got, ok)
		}
	}
	for _, p := range invalidProcs() {
		s := strconv.Itoa(p.Site) + "." + strconv.Itoa(p.Inc) + "." + strconv.Itoa(p.Num)
		if got, ok := ident.ParseProc(s); got != (api.Proc{}) || ok {
			t.Errorf("ParseProc(%q) = %v, %t", s, got, ok)
		}
	}
}

// P2.2: whatever byte is put in, replaced or removed, ParseProc accepts only what FormatProc writes.
func TestParseProcOfChangedTexts(t *testing.T) {
	for _, s := range []string{"2.1.5", "0.10.100", "3.99.999", "1.20.30"} {
		for i := range len(s) {
			checkParse(t, s[:i]+s[i+1:])
			for c := range 256 {
				b := string([]byte{byte(c)})
				checkParse(t, s[:i]+b+s[i:])
				checkParse(t, s[:i]+b+s[i+1:])
				checkParse(t, s+b)
			}
		}
	}
}

// checkParse compares ParseProc with the definition: the process whose text is s, found by its digits.
func checkParse(t *testing.T, s string) {
	t.Helper()
	want, found := api.Proc{}, false
	if parts := strings.Split(s, "."); len(parts) == 3 {
		site, inc, num := value(parts[0]), value(parts[1]), value(parts[2])
		if site >= 0 && site <= 3 && inc >= 1 && inc <= 99 && num >= 1 && num <= 999 {
			want, found = proc(site, inc, num), true
		}
	}
	if got, ok := ident.ParseProc(s); got != want || ok != found {
		t.Errorf("ParseProc(%q) = %v, %t, want %v, %t", s, got, ok, want, found)
	}
}

// value returns the number of at most four digits without leading zeros, and -1 for other texts.
func value(s string) int {
	if s == "" || len(s) > 4 || s[0] == '0' && s != "0" || strings.Trim(s, "0123456789") != "" {
		return -1
	}
	n := 0
	for _, c := range s {
		n = 10*n + int(c-'0')
	}
	return n
}
