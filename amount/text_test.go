package amount_test

import (
	"testing"

	"clusterlocks/amount"
	"clusterlocks/api"
)

// texts are the amounts that have a text.
var texts = map[api.Amount]string{
	{}:              "-",
	{Mode: api.IS}:  "IS",
	{Mode: api.IX}:  "IX",
	{Mode: api.S}:   "S",
	{Mode: api.SIX}: "SIX",
	{Mode: api.X}:   "X",
	{Units: 1}:      "*1",
	{Units: 2}:      "*2",
	{Units: 3}:      "*3",
	{Units: 4}:      "*4",
	{Units: 5}:      "*5",
	{Units: 6}:      "*6",
	{Units: 7}:      "*7",
	{Units: 8}:      "*8",
}

// P4.4: Format of the zero amount, of all modes and of all numbers of units; an empty string for all others.
func TestFormat(t *testing.T) {
	for a, want := range texts {
		if got := amount.Format(a); got != want {
			t.Errorf("Format(%+v) = %q, want %q", a, got, want)
		}
	}
	for _, a := range everyAmount() {
		if got := amount.Format(a); got != texts[a] {
			t.Errorf("Format(%+v) = %q, want %q", a, got, texts[a])
		}
	}
}

// P4.1, P4.2, P4.3: the chapter's examples.
func TestExamples(t *testing.T) {
	p := pool(3)
	if got := amount.Join(lock, m(api.IX), m(api.S)); amount.Format(got) != "SIX" {
		t.Errorf("Join(a, IX, S) = %+v", got)
	}
	if !amount.Compatible(p, []api.Amount{u(1), u(2)}) {
		t.Error("*1 and *2 are not compatible")
	}
	if amount.Room(p, []api.Amount{u(1), u(2)}, u(1)) {
		t.Error("there is room for a fourth unit of three")
	}
	if amount.Fits(p, u(4)) {
		t.Error("*4 fits a pool of three")
	}
}
