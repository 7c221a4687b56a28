package codec_test

import (
	"bytes"
	"encoding/binary"
	"math"
	"testing"

	"clusterlocks/api"
	"clusterlocks/codec"
)

// numbers are the edges between lengths of a varint, and their neighbours.
func numbers() []uint64 {
	out := []uint64{0, 1, 2, 100, 300, 1 << 31, 1<<32 - 1, 1 << 32, math.MaxInt64, 1 << 63, math.MaxUint64 - 1, math.MaxUint64}
	for bits := 7; bits <= 63; bits += 7 {
		out = append(out, 1<<bits-2, 1<<bits-1, 1<<bits, 1<<bits+1)
	}
	return out
}

// run is n times the byte c, followed by the bytes of last.
func run(c byte, n int, last ...byte) []byte {
	return append(bytes.Repeat([]byte{c}, n), last...)
}

// P1.1: PutUint returns b followed by the varint of v.
func TestPutUint(t *testing.T) {
	table := []struct {
		v    uint64
		want []byte
	}{
		{0, []byte{0}},
		{1, []byte{1}},
		{127, []byte{127}},
		{128, []byte{128, 1}},
		{300, []byte{172, 2}},
		{16383, []byte{255, 127}},
		{16384, []byte{128, 128, 1}},
		{1 << 32, []byte{128, 128, 128, 128, 16}},
		{1<<63 - 1, run(255, 8, 127)},
		{1 << 63, run(128, 9, 1)},
		{math.MaxUint64, run(255, 9, 1)},
	}
	for _, x := range table {
		if got := codec.PutUint(nil, x.v); !bytes.Equal(got, x.want) {
			t.Errorf("PutUint(nil, %d) = %v, want %v", x.v, got, x.want)
		}
	}
	for _, v := range numbers() {
		want := binary.AppendUvarint([]byte{200, 0, 7}, v)
		if got := codec.PutUint([]byte{200, 0, 7}, v); !bytes.Equal(got, want) {
			t.Errorf("PutUint({200 0 7}, %d) = %v, want %v", v, got, want)
		}
	}
}

// P1.1, Consequences: Uint reads back what PutUint wrote, whatever follows it, and refuses every proper prefix.
func TestUintReadsBack(t *testing.T) {
	tails := [][]byte{nil, {0}, {1}, {128}, {255, 255}, run(255, 20)}
	for _, v := range numbers() {
		b := codec.PutUint(nil, v)
		for _, tail := range tails {
			got, n, err := codec.Uint(append(b[:len(b):len(b)], tail...))
			if got != v || n != len(b) || err != api.OK {
				t.Errorf("Uint of %d and %v = %d, %d, %d", v, tail, got, n, err)
			}
		}
		for i := range b {
			if got, n, err := codec.Uint(b[:i]); got != 0 || n != 0 || err != api.ErrShort {
				t.Errorf("Uint of %d bytes of %d = %d, %d, %d", i, v, got, n, err)
			}
		}
	}
}

// P1.1: what Uint refuses, and with which error.
func TestUintErrors(t *testing.T) {
	table := []struct {
		name string
		b    []byte
		want api.Errno
	}{
		{"nil", nil, api.ErrShort},
		{"no bytes", []byte{}, api.ErrShort},
		{"another byte is needed", []byte{128}, api.ErrShort},
		{"another byte is needed after eight", run(128, 8), api.ErrShort},
		{"another byte is needed after nine", run(255, 9), api.ErrShort},
		{"the second byte is 0", []byte{128, 0}, api.ErrForm},
		{"the second byte is 0, more follow", []byte{255, 0, 1}, api.ErrForm},
		{"the third byte is 0", []byte{128, 128, 0}, api.ErrForm},
		{"the tenth byte is 0", run(128, 9, 0), api.ErrForm},
		{"the tenth byte is 2", run(255, 9, 2), api.ErrForm},
		{"the tenth byte is 127", run(128, 9, 127), api.ErrForm},
		{"the tenth byte announces another one", run(128, 9, 128), api.ErrForm},
		{"the tenth byte is 129 and one follows", run(128, 9, 129, 0), api.ErrForm},
		{"no end", run(255, 100), api.ErrForm},
	}
	for _, x := range table {
		if v, n, err := codec.Uint(x.b); v != 0 || n != 0 || err != x.want {
			t.Errorf("%s: Uint(%v) = %d, %d, %d, want error %d", x.name, x.b, v, n, err, x.want)
		}
	}
}

// P1.1: each number has one varint. All inputs of up to three bytes: what is read is what would be written.
func TestUintIsShortest(t *testing.T) {
	for i := range 1 << 24 {
		b := []byte{byte(i), byte(i >> 8), byte(i >> 16)}
		v, n, err := codec.Uint(b)
		switch {
		case err == api.OK:
			if !bytes.Equal(codec.PutUint(nil, v), b[:n]) {
				t.Fatalf("Uint(%v) = %d, %d", b, v, n)
			}
		case err == api.ErrShort:
			if b[0]&b[1]&b[2] < 128 {
				t.Fatalf("Uint(%v): ErrShort", b)
			}
		default:
			if err != api.ErrForm || v != 0 || n != 0 || b[0] < 128 || b[1] != 0 && (b[1] < 128 || b[2] != 0) {
				t.Fatalf("Uint(%v) = %d, %d, %d", b, v, n, err)
			}
		}
	}
}
