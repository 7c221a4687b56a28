package catalog_test

import (
	"math"
	"slices"
	"strings"
	"testing"

	"clusterlocks/api"
	"clusterlocks/catalog"
)

// numbers are ordinary numbers, those at the limits, and numbers that would be in range if they were cut to fewer bits.
var numbers = []int{
	-9, -4, -3, -2, -1, 0, 1, 2, 3, 4, 5, 6, 7, 8, 9, 10, 16, 99,
	1<<8 + 1, -1<<8 + 3, 1<<16 + 2, 1 << 32, 1<<32 + 1, 1<<32 + 3, -1<<32 + 2,
	math.MinInt, math.MinInt + 1, math.MinInt + 3, math.MaxInt, math.MaxInt - 1,
}

// lock returns a lock with this home.
func lock(name string, home int) api.Resource {
	return api.Resource{Name: name, Kind: api.Lock, Units: 1, Home: home}
}

// pool returns a pool of this number of units with this home.
func pool(name string, units, home int) api.Resource {
	return api.Resource{Name: name, Kind: api.Pool, Units: units, Home: home}
}

// locks returns a lock of each name.
func locks(names ...string) []api.Resource {
	var out []api.Resource
	for i, name := range names {
		out = append(out, lock(name, i%api.MaxSites))
	}
	return out
}

// reserved are the chapter's words.
var reserved = []string{"all", "any", "of", "prio", "limit"}

// noNames are texts of all sorts that are no names.
var noNames = slices.Concat(reserved, []string{
	"", " ", "\x00", "\n", ".", "*", "A", "Z", "0", "9", "_", "-", "\xff", "\x80",
	"9a", "0a", "_a", "-a", "--", "Aa", "aA", "a ", " a", "a\n", "a\x00", "a.", "a:b", "a(b)", "a,b", "a*2", "a/b", "a+", "a b",
	"abcdefghijklm", "abcdefghijkl ", "aaaaaaaaaaaaaaaaaaaaaaaaaaaaaaaaaaaaaaaa", "a23456789012345",
	"\u00e9", "\u00e9a", "a\u00e9", "a\u0301", "\u0430", "\uff41", "a\uff41", "\u0661", "a\u0661", "a\xe9", "\xe9",
})

// names are names of all sorts.
var names = []string{
	"a", "z", "m", "aa", "az", "a0", "a9", "a_", "a-", "a-b_9", "z-", "b0_-", "abcdefghijkl", "a-----------", "a___________", "z99999999999", "zzzzzzzzzzzz",
	"allx", "xall", "al", "ally", "any1", "an", "o", "off", "oof", "of-", "prio1", "pri", "priority", "limit-", "limi", "limits",
	"lock", "pool", "at", "x", "s", "is", "k",
}

// P5.1: the five words are reserved, and no other ones.
func TestReserved(t *testing.T) {
	for _, s := range reserved {
		if !catalog.Reserved(s) {
			t.Errorf("Reserved(%q) = false", s)
		}
		for _, other := range []string{s + " ", " " + s, s + "x", "x" + s, s[1:], s[:len(s)-1], strings.ToUpper(s), strings.ToUpper(s[:1]) + s[1:], s + s, s + "\x00", s + "\n"} {
			if catalog.Reserved(other) {
				t.Errorf("Reserved(%q) = true", other)
			}
		}
	}
	for _, s := range append([]string{"", "lock", "pool", "at", "k", "IS", "X", "*", "and", "or", "allany"}, names...) {
		if catalog.Reserved(s) {
			t.Errorf("Reserved(%q) = true", s)
		}
	}
}

// P5.1: names of all sorts, and texts that are no names.
func TestValidName(t *testing.T) {
	for _, s := range names {
		if !catalog.ValidName(s) {
			t.Errorf("ValidName(%q) = false", s)
		}
	}
	for _, s := range append([]string{strings.Repeat("a", 1<<20)}, noNames...) {
		if catalog.ValidName(s) {
			t.Errorf("ValidName(%.40q) = true", s)
		}
	}
}

// P5.1: every byte at every place of a name of every length; the first one must be a letter.
func TestValidNameBytes(t *testing.T) {
	const first = "abcdefghijklmnopqrstuvwxyz"
	const others = first + "0123456789_-"
	for length := 1; length <= 14; length++ {
		for at := range length {
			for c := range 256 {
				b := []byte(strings.Repeat("q", length))
				b[at] = byte(c)
				good := others
				if at == 0 {
					good = first
				}
				want := length <= 12 && strings.IndexByte(good, byte(c)) >= 0
				if got := catalog.ValidName(string(b)); got != want {
					t.Errorf("ValidName(%q) = %t", b, got)
				}
			}
		}
	}
}

// P5.1: a resource is valid if its name, its kind with its units, and its home are.
func TestValidResource(t *testing.T) {
	for _, kind := range numbers {
		for _, units := range numbers {
			for _, home := range numbers {
				shaped := kind == api.Lock && units == 1 || kind == api.Pool && units >= 1 && units <= 8
				want := shaped && home >= 0 && home <= 3
				r := api.Resource{Name: "a-1", Kind: kind, Units: units, Home: home}
				if got := catalog.ValidResource(r); got != want {
					t.Errorf("ValidResource(%+v) = %t", r, got)
				}
			}
		}
	}
	for _, s := range names {
		if !catalog.ValidResource(lock(s, 0)) || !catalog.ValidResource(pool(s, 8, 3)) {
			t.Errorf("a resource %q is not valid", s)
		}
	}
	for _, s := range noNames {
		if catalog.ValidResource(lock(s, 0)) || catalog.ValidResource(pool(s, 8, 3)) {
			t.Errorf("a resource %q is valid", s)
		}
	}
	if catalog.ValidResource(api.Resource{}) {
		t.Error("the zero resource is valid")
	}
}

// invalidResources are resources that are not valid, each for one reason, and one for all of them.
var invalidResources = []api.Resource{
	lock("", 0), lock("any", 0), lock("A", 0), lock("b ", 0), lock("bcdefghijklmn", 0),
	lock("b", -1), lock("b", 4), pool("b", 0, 0), pool("b", 9, 0), pool("b", -1, 0),
	{Name: "b", Kind: api.Lock}, {Name: "b", Kind: api.Lock, Units: 2}, {Name: "b", Units: 1}, {Name: "b", Kind: 3, Units: 1},
	{Name: "any", Kind: -1, Units: math.MinInt, Home: math.MaxInt},
}

// invalidCatalogs are catalogs that are not valid, each for one reason.
func invalidCatalogs() [][]api.Resource {
	out := [][]api.Resource{
		locks("b", "a"), locks("a", "c", "b"), locks("b", "a", "c"), locks("a", "a"), locks("a", "b", "b"), locks("a", "b", "a"),
		locks("aa", "a"), locks("a1", "a-"), locks("a_", "a9"), locks("ab", "a_"), locks("b", "aaaaaaaaaaaa"),
		locks("a", "b", "c", "d", "e", "f", "g", "h", "i"),
		locks("a", "b", "c", "d", "e", "f", "g", "h", "h"),
		{lock("a", 0), pool("a", 2, 1)}, {pool("a", 2, 1), pool("a", 2, 1)},
	}
	for _, bad := range invalidResources {
		out = append(out, []api.Resource{bad}, []api.Resource{lock("a", 0), bad}, []api.Resource{bad, lock("c", 0)}, []api.Resource{lock("a", 0), bad, lock("c", 0)})
	}
	return out
}

// validCatalogs are catalogs of all lengths that are valid.
func validCatalogs() [][]api.Resource {
	return [][]api.Resource{
		nil, {},
		locks("a"), locks("z"), {pool("p", 1, 3)}, {pool("p", 8, 0)},
		locks("a", "b"), locks("a", "aa"), locks("a-", "a1"), locks("a9", "a_"), locks("a_", "ab"), locks("aaaaaaaaaaaa", "b"), locks("at", "lock", "pool"),
		{lock("b", 0), pool("d", 2, 1)}, {pool("b", 3, 3), lock("d", 3)},
		locks("b", "d", "f"), {pool("b", 1, 0), pool("d", 2, 1), pool("f", 3, 2)},
		locks("b", "d", "f", "h"), locks("b", "d", "f", "h", "j"), locks("b", "d", "f", "h", "j", "l"),
		{lock("b", 3), pool("d", 8, 3), lock("f", 1), pool("h", 7, 2), lock("j", 3), pool("l", 4, 0), pool("n", 5, 1)},
		locks("b", "d", "f", "h", "j", "l", "n", "p"),
		{pool("b00000000000", 8, 3), pool("d00000000000", 1, 2), pool("f00000000000", 8, 1), pool("h00000000000", 2, 0), pool("j00000000000", 8, 3), pool("l00000000000", 3, 3), pool("n00000000000", 8, 3), pool("p00000000000", 8, 3)},
	}
}

// P5.1: Valid of catalogs of all lengths, and of those that are not valid for one reason.
func TestValid(t *testing.T) {
	for _, l := range validCatalogs() {
		if !catalog.Valid(l) {
			t.Errorf("Valid(%+v) = false", l)
		}
	}
	for _, l := range invalidCatalogs() {
		if catalog.Valid(l) {
			t.Errorf("Valid(%+v) = true", l)
		}
	}
}

// P5.1: names must ascend bytewise at every place of a catalog.
func TestValidOrder(t *testing.T) {
	sorted := locks("a", "a-", "a0", "a_", "aa", "b", "b1", "ba")
	if !catalog.Valid(sorted) {
		t.Errorf("Valid(%+v) = false", sorted)
	}
	for i := range sorted {
		for j := range i {
			l := slices.Clone(sorted)
			l[i], l[j] = l[j], l[i]
			if catalog.Valid(l) {
				t.Errorf("Valid with %q and %q exchanged is true", l[i].Name, l[j].Name)
			}
			l = slices.Clone(sorted)
			l[i].Name = l[j].Name
			if catalog.Valid(l) {
				t.Errorf("Valid with %q at %d and %d is true", l[i].Name, i, j)
			}
		}
	}
}

// P5.1: a resource that is not valid makes a catalog invalid at every place; so do too many resources.
func TestValidRefuses(t *testing.T) {
	for i, r := range locks("b", "d", "f", "h", "j", "l", "n", "p") {
		for _, field := range []func(*api.Resource){
			func(r *api.Resource) { r.Name += "." },
			func(r *api.Resource) { r.Kind = 3 },
			func(r *api.Resource) { r.Units = 9 },
			func(r *api.Resource) { r.Home = -1 },
		} {
			l := locks("b", "d", "f", "h", "j", "l", "n", "p")
			bad := r
			field(&bad)
			l[i] = bad
			if catalog.Valid(l) {
				t.Errorf("Valid with %+v at %d is true", bad, i)
			}
		}
	}
	many := make([]api.Resource, 1<<20)
	if catalog.Valid(many) {
		t.Error("Valid of a great many resources is true")
	}
}
