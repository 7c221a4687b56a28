package ident_test

import (
	"bytes"
	"encoding/binary"
	"math"
	"testing"

	"clusterlocks/api"
	"clusterlocks/ident"
)

// varints returns the varints of numbers that need not be those of a valid process.
func varints(numbers ...uint64) []byte {
	var out []byte
	for _, n := range numbers {
		out = binary.AppendUvarint(out, n)
	}
	return out
}

// join returns the bytes of all its arguments.
func join(parts ...[]byte) []byte {
	return bytes.Join(parts, nil)
}

// P2.4: PutProc returns b followed by three varints.
func TestPutProc(t *testing.T) {
	table := []struct {
		b    []byte
		p    api.Proc
		want []byte
	}{
		{nil, proc(0, 1, 1), []byte{0, 1, 1}},
		{nil, proc(2, 1, 5), []byte{2, 1, 5}},
		{[]byte{8}, proc(3, 99, 999), []byte{8, 3, 99, 231, 7}},
		{[]byte{128, 0}, proc(1, 2, 127), []byte{128, 0, 1, 2, 127}},
		{[]byte{255}, proc(1, 2, 128), []byte{255, 1, 2, 128, 1}},
	}
	for _, x := range table {
		if got := ident.PutProc(x.b, x.p); !bytes.Equal(got, x.want) {
			t.Errorf("PutProc(%v, %v) = %v, want %v", x.b, x.p, got, x.want)
		}
	}
	for _, p := range validProcs() {
		want := varints(9, uint64(p.Site), uint64(p.Inc), uint64(p.Num))
		if got := ident.PutProc([]byte{9}, p); !bytes.Equal(got, want) {
			t.Errorf("PutProc({9}, %v) = %v, want %v", p, got, want)
		}
	}
}

// P2.4: PutProc of a process that is not valid returns b.
func TestPutProcInvalid(t *testing.T) {
	for _, p := range invalidProcs() {
		for _, b := range [][]byte{nil, {}, {8}, {128, 3, 0}} {
			if got := ident.PutProc(b, p); !bytes.Equal(got, b) {
				t.Errorf("PutProc(%v, %v) = %v", b, p, got)
			}
		}
	}
}

// P2.4: Proc reads back what PutProc wrote, whatever follows it, and refuses every proper prefix.
func TestProcReadsBack(t *testing.T) {
	for _, p := range validProcs() {
		b := ident.PutProc(nil, p)
		for _, tail := range [][]byte{nil, {0}, {1}, {128}, {255, 255}, b} {
			if got, n, err := ident.Proc(join(b, tail)); got != p || n != len(b) || err != api.OK {
				t.Errorf("Proc of %v, then %v = %v, %d, %d", b, tail, got, n, err)
			}
		}
		for i := range b {
			if got, n, err := ident.Proc(b[:i]); got != (api.Proc{}) || n != 0 || err != api.ErrShort {
				t.Errorf("Proc of the first %d bytes of %v = %v, %d, %d", i, b, got, n, err)
			}
		}
	}
}

// P2.4: the errors of Proc, in their order.
func TestProcErrors(t *testing.T) {
	long := []byte{128, 0}                                 // a varint that is not the shortest
	great := join(bytes.Repeat([]byte{255}, 9), []byte{2}) // a varint of more than 64 bits
	table := []struct {
		name string
		b    []byte
		want api.Errno
	}{
		{"no bytes", nil, api.ErrShort},
		{"Site ends early", []byte{128}, api.ErrShort},
		{"Site is malformed", join(long, varints(1, 1)), api.ErrForm},
		{"Site has more than 64 bits", join(great, varints(1, 1)), api.ErrForm},
		{"no Inc", varints(0), api.ErrShort},
		{"Inc ends early", []byte{0, 129}, api.ErrShort},
		{"Inc is malformed", join(varints(0), long, varints(1)), api.ErrForm},
		{"no Num", varints(0, 1), api.ErrShort},
		{"Num ends early", []byte{0, 1, 231}, api.ErrShort},
		{"Num is malformed", join(varints(0, 1), long), api.ErrForm},
		{"Num has more than 64 bits", join(varints(0, 1), great), api.ErrForm},
		{"Site malformed comes ahead of no Inc", long, api.ErrForm},
		{"Inc malformed comes ahead of no Num", join(varints(0), long), api.ErrForm},
		{"no Inc comes ahead of Site not valid", varints(4), api.ErrShort},
		{"no Num comes ahead of Site not valid", varints(4, 1), api.ErrShort},
		{"no Num comes ahead of Inc not valid", varints(0, 0), api.ErrShort},
		{"Inc malformed comes ahead of Site not valid", join(varints(4), long, varints(1)), api.ErrForm},
		{"Num malformed comes ahead of Site not valid", join(varints(4, 1), long), api.ErrForm},
		{"Num malformed comes ahead of Inc not valid", join(varints(0, 100), long), api.ErrForm},
	}
	for _, x := range table {
		if got, n, err := ident.Proc(x.b); got != (api.Proc{}) || n != 0 || err != x.want {
			t.Errorf("%s: Proc = %v, %d, %d, want error %d", x.name, got, n, err, x.want)
		}
	}
}

// P2.4: Proc refuses three good varints if they are not those of a valid process.
func TestProcInvalid(t *testing.T) {
	greats := []uint64{1 << 7, 1 << 8, 1 << 16, 1 << 31, 1 << 32, math.MaxInt64, 1 << 63, math.MaxUint64}
	var bad [][]byte
	for _, n := range append(greats, 4, 5, 128) {
		bad = append(bad, varints(n, 1, 1))
	}
	for _, n := range append(greats, 0, 100, 101) {
		bad = append(bad, varints(0, n, 1))
	}
	for _, n := range append(greats[3:], 0, 1000, 1001, 1<<16) {
		bad = append(bad, varints(0, 1, n))
	}
	for _, n := range greats[2:] {
		// Cut off to fewer bits, these would be the numbers 1.
		bad = append(bad, varints(n|1, 1, 1), varints(0, n|1, 1), varints(0, 1, n|1))
	}
	for _, b := range bad {
		if got, n, err := ident.Proc(b); got != (api.Proc{}) || n != 0 || err != api.ErrInvalid {
			t.Errorf("Proc(%v) = %v, %d, %d", b, got, n, err)
		}
	}
}

// P2.4: whatever three bytes there are, what Proc accepts is what PutProc writes.
func TestProcAnyBytes(t *testing.T) {
	for i := range 1 << 24 {
		// The bytes between those at the edges of a site's limits behave as they do.
		if first := byte(i >> 16); first > 5 && first < 127 || first > 129 {
			continue
		}
		b := []byte{byte(i >> 16), byte(i >> 8), byte(i)}
		p, n, err := ident.Proc(b)
		if err == api.OK && (!ident.ValidProc(p) || !bytes.Equal(ident.PutProc(nil, p), b[:n])) || err != api.OK && (n != 0 || p != api.Proc{}) {
			t.Fatalf("Proc(%v) = %v, %d, %d", b, p, n, err)
		}
	}
}
