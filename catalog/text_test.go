package catalog_test

import (
	"slices"
	"strings"
	"testing"

	"clusterlocks/api"
	"clusterlocks/catalog"
)

// P5.4: Format writes a line for each resource, in order.
func TestFormat(t *testing.T) {
	table := []struct {
		l    []api.Resource
		want string
	}{
		{nil, ""},
		{[]api.Resource{}, ""},
		{[]api.Resource{lock("a", 0)}, "lock a at 0\n"},
		{[]api.Resource{lock("z-9_", 3)}, "lock z-9_ at 3\n"},
		{[]api.Resource{pool("p", 3, 1)}, "pool p 3 at 1\n"},
		{[]api.Resource{pool("p", 1, 2)}, "pool p 1 at 2\n"},
		{[]api.Resource{pool("abcdefghijkl", 8, 3)}, "pool abcdefghijkl 8 at 3\n"},
		{[]api.Resource{lock("a", 0), pool("p", 3, 1)}, "lock a at 0\npool p 3 at 1\n"},
		{[]api.Resource{pool("at", 2, 0), pool("lock", 5, 0), lock("pool", 1)}, "pool at 2 at 0\npool lock 5 at 0\nlock pool at 1\n"},
		{locks("a", "b", "c", "d", "e", "f", "g", "h"), "lock a at 0\nlock b at 1\nlock c at 2\nlock d at 3\nlock e at 0\nlock f at 1\nlock g at 2\nlock h at 3\n"},
	}
	for _, x := range table {
		if got := catalog.Format(x.l); got != x.want {
			t.Errorf("Format(%+v) = %q, want %q", x.l, got, x.want)
		}
		if got, err := catalog.Parse(x.want); !slices.Equal(got, x.l) || err != api.OK {
			t.Errorf("Parse(%q) = %+v, %d", x.want, got, err)
		}
	}
}

// P5.4: Format returns an empty string for a catalog that is not valid.
func TestFormatInvalid(t *testing.T) {
	for _, l := range invalidCatalogs() {
		if got := catalog.Format(l); got != "" {
			t.Errorf("Format(%+v) = %q", l, got)
		}
	}
}

// Consequences: Parse reads back what Format wrote, for every valid resource and for catalogs of all lengths.
func TestParseReadsBack(t *testing.T) {
	all := validCatalogs()
	for _, name := range names {
		for home := range 4 {
			all = append(all, []api.Resource{lock(name, home)})
			for units := 1; units <= 8; units++ {
				all = append(all, []api.Resource{pool(name, units, home)})
			}
		}
	}
	for _, l := range all {
		s := catalog.Format(l)
		if got, err := catalog.Parse(s); !slices.Equal(got, l) || err != api.OK {
			t.Errorf("Parse(%q) = %+v, %d, want %+v", s, got, err, l)
		}
		if strings.Count(s, "\n") != len(l) {
			t.Errorf("Format(%+v) = %q", l, s)
		}
	}
}

// wrong are texts that Format does not write.
var wrong = []string{
	"\n", " ", "\n\n", "\x00", "a", "lock", "pool\n", "at\n", "lock a\n", "lock a at\n", "lock at 0\n", "pool p 3 at\n", "pool p 3\n", "pool 3 at 1\n", "3 at 1\n",
	"lock a at 0", "pool p 3 at 1", "lock a at 0\npool p 3 at 1", "lock a at 0\r\n", "lock a at 0\r", "lock a at 0\x00", "lock a at 0;", "lock a at 0\u2028",
	"\nlock a at 0\n", "lock a at 0\n\n", "lock a at 0\n\nlock b at 0\n", "lock a at 0\n ", "lock a at 0\nx\n", "lock a at 0lock b at 0\n", "lock a at 0 lock b at 0\n", "lock a at\n0\n", "lock\na at 0\n",
	" lock a at 0\n", "lock  a at 0\n", "lock a  at 0\n", "lock a at  0\n", "lock a at 0 \n", "lock\ta at 0\n", "lock a\tat 0\n", "lock a at\u00a00\n", "lock\va at 0\n", "lock\u0085a at 0\n", "\flock a at 0\n",
	"locka at 0\n", "lock a at0\n", "lock aat 0\n", "pool p 3at 1\n", "poolp 3 at 1\n",
	"Lock a at 0\n", "LOCK a at 0\n", "lock a At 0\n", "lock a on 0\n", "lock a a 0\n", "pool p 3 on 1\n", "look a at 0\n", "loc a at 0\n", "locks a at 0\n", "at a at 0\n", "\"lock\" a at 0\n", "poo p 3 at 1\n", "poll p 3 at 1\n", "Pool p 3 at 1\n",
	"lock a 1 at 0\n", "pool p at 1\n", "pool a at 0\n", "lock p 3 at 1\n", "pool p 3 4 at 1\n", "lock a at 0 0\n", "lock a at 0 at 0\n", "pool p 3 at 1 1\n", "lock a b at 0\n",
	"lock a at 4\n", "lock a at -1\n", "lock a at 10\n", "lock a at 00\n", "lock a at 01\n", "lock a at +1\n", "lock a at -0\n", "lock a at 1.0\n", "lock a at x\n", "lock a at 0x1\n", "lock a at 1_0\n", "lock a at 1e0\n", "lock a at \u0661\n", "lock a at \uff11\n",
	"lock a at 4294967296\n", "lock a at 18446744073709551616\n", "lock a at 9223372036854775808\n", "lock a at 99999999999999999999999999\n", "lock a at a\n", "lock a at \n",
	"pool p 0 at 1\n", "pool p 9 at 1\n", "pool p 03 at 1\n", "pool p +3 at 1\n", "pool p -3 at 1\n", "pool p x at 1\n", "pool p 3.0 at 1\n", "pool p 10 at 1\n", "pool p 4294967299 at 1\n", "pool p 18446744073709551619 at 1\n", "pool p 3 at 4\n", "pool p 3 at 01\n", "pool p *3 at 1\n",
	"lock all at 0\n", "pool limit 3 at 1\n", "lock A at 0\n", "lock 1 at 0\n", "lock _a at 0\n", "lock a.b at 0\n", "lock abcdefghijklm at 0\n", "lock \u00e9 at 0\n", "lock \xff at 0\n", "lock a\xff at 0\n", "lock a\x00 at 0\n", "lock  at 0\n",
	"lock b at 0\nlock a at 0\n", "lock a at 0\nlock a at 0\n", "lock a at 0\npool a 1 at 0\n", "pool a 2 at 0\npool a 1 at 0\n", "lock a at 0\nlock c at 0\nlock b at 0\n", "lock a1 at 0\nlock a- at 0\n",
	"lock a at 0\nlock b at 0\nlock c at 0\nlock d at 0\nlock e at 0\nlock f at 0\nlock g at 0\nlock h at 0\nlock i at 0\n",
}

// P5.4: Parse refuses a text that Format writes for no valid catalog, also ahead of right lines and behind them.
func TestParseRefuses(t *testing.T) {
	const first, last = "lock a-- at 2\n", "lock zz at 0\n"
	for _, s := range wrong {
		for _, text := range []string{s, first + s, s + last, first + s + last} {
			if got, err := catalog.Parse(text); len(got) != 0 || err != api.ErrForm {
				t.Errorf("Parse(%q) = %+v, %d", text, got, err)
			}
		}
	}
	if got, err := catalog.Parse(first + last); len(got) != 2 || err != api.OK {
		t.Errorf("Parse of the right lines = %+v, %d", got, err)
	}
}

// P5.4: a text in which one byte is changed, added or left out is refused, or is that of another catalog.
func TestParseChangedBytes(t *testing.T) {
	const s = "lock a1 at 0\npool of1 2 at 3\nlock z at 1\n"
	if got, err := catalog.Parse(s); len(got) != 3 || err != api.OK {
		t.Fatalf("Parse(%q) = %+v, %d", s, got, err)
	}
	good := 0
	for i := range len(s) + 1 {
		for c := range 256 {
			texts := []string{s[:i] + string([]byte{byte(c)}) + s[i:]}
			if i < len(s) {
				texts = append(texts, s[:i]+string([]byte{byte(c)})+s[i+1:], s[:i]+s[i+1:])
			}
			for _, text := range texts {
				got, err := catalog.Parse(text)
				switch {
				case err == api.OK && catalog.Valid(got) && catalog.Format(got) == text:
					good++
				case err != api.ErrForm || len(got) != 0:
					t.Errorf("Parse(%q) = %+v, %d", text, got, err)
				}
			}
		}
	}
	if good < 100 {
		t.Errorf("only %d changed texts are those of catalogs", good)
	}
}

// P5.4: a text of more than MaxText bytes is too long, whatever it contains; one of MaxText bytes is not.
func TestParseLength(t *testing.T) {
	for _, unit := range []string{"x", "\n", " ", "\x00", "lock a at 0\n", "lock a at ", "\u00e9", "a\n", "1 2 3 4\n"} {
		long := strings.Repeat(unit, 2000)
		for length, want := range map[int]api.Errno{1023: api.ErrForm, 1024: api.ErrForm, 1025: api.ErrTooLong, 1026: api.ErrTooLong, 2000: api.ErrTooLong, len(long): api.ErrTooLong} {
			if got, err := catalog.Parse(long[:length]); len(got) != 0 || err != want {
				t.Errorf("Parse of %d bytes of %q = %+v, %d, want %d", length, unit, got, err, want)
			}
		}
	}
	text := catalog.Format(locks("a", "b"))
	if got, err := catalog.Parse(text + strings.Repeat(" ", 1024)); len(got) != 0 || err != api.ErrTooLong {
		t.Errorf("Parse of a catalog and spaces = %+v, %d", got, err)
	}
}

// P5.1, P5.4: the chapter's examples.
func TestExamples(t *testing.T) {
	if got := catalog.Format([]api.Resource{pool("p", 3, 1)}); got != "pool p 3 at 1\n" {
		t.Errorf("Format of a pool = %q", got)
	}
	if got, err := catalog.Parse("lock b at 0\nlock a at 0\n"); len(got) != 0 || err != api.ErrForm {
		t.Errorf("Parse of b and a = %+v, %d", got, err)
	}
	if catalog.ValidName("all") {
		t.Error("all is a name")
	}
}
