package codec_test

import (
	"bytes"
	"math"
	"strings"
	"testing"

	"clusterlocks/api"
	"clusterlocks/codec"
)

// P1.2: PutText returns b followed by the length of s and its bytes; it has no limit of its own.
func TestPutText(t *testing.T) {
	for _, size := range []int{0, 1, 5, 127, 128, 1024, 1025, 20000} {
		s := strings.Repeat("y\xff\x00", size)[:size]
		for _, b := range [][]byte{nil, {9}, {128, 128, 3}} {
			want := append(codec.PutUint(b, uint64(size)), s...)
			if got := codec.PutText(b, s); !bytes.Equal(got, want) {
				t.Errorf("PutText of %v and %d bytes: %d bytes", b, size, len(got))
			}
		}
	}
	if got := codec.PutText([]byte{9}, "ab"); !bytes.Equal(got, []byte{9, 2, 'a', 'b'}) {
		t.Errorf("PutText({9}, ab) = %v", got)
	}
}

// P1.2, Consequences: Text reads back what PutText wrote, whatever follows it, and refuses every proper prefix.
func TestTextReadsBack(t *testing.T) {
	long := strings.Repeat("0123456789abcdef", 64)
	for _, s := range []string{"", "a", "\x00", "\xff\xfe", "na\u00efve", long[:127], long[:128], long[:1023], long} {
		b := codec.PutText(nil, s)
		for _, tail := range [][]byte{nil, {0}, {255}, b} {
			got, n, err := codec.Text(append(b[:len(b):len(b)], tail...))
			if got != s || n != len(b) || err != api.OK {
				t.Errorf("Text of %d bytes, then %d: %d bytes, %d, %d", len(s), len(tail), len(got), n, err)
			}
		}
		for i := range b {
			if got, n, err := codec.Text(b[:i]); got != "" || n != 0 || err != api.ErrShort {
				t.Errorf("Text of the first %d bytes of %d = %q, %d, %d", i, len(b), got, n, err)
			}
		}
	}
}

// P1.2: the errors of Text, in their order.
func TestTextErrors(t *testing.T) {
	text := strings.Repeat("z", 1025)
	table := []struct {
		name string
		b    []byte
		want api.Errno
	}{
		{"no bytes", nil, api.ErrShort},
		{"the length ends early", []byte{129}, api.ErrShort},
		{"the length is not the shortest", []byte{130, 0, 'a', 'b'}, api.ErrForm},
		{"the length is greater than 64 bits", run(255, 9, 2), api.ErrForm},
		{"more than MaxText bytes, all of them there", codec.PutText(nil, text), api.ErrTooLong},
		{"too long comes ahead of short", codec.PutUint(nil, 1025), api.ErrTooLong},
		{"a length that no int has", codec.PutUint(nil, math.MaxUint64), api.ErrTooLong},
		{"a length that would be negative", codec.PutUint(nil, 1<<63), api.ErrTooLong},
		{"a length beyond 32 bits", append(codec.PutUint(nil, 1<<32+1), 'a'), api.ErrTooLong},
		{"MaxText, no bytes", codec.PutUint(nil, 1024), api.ErrShort},
		{"one byte is missing", []byte{3, 'a', 'b'}, api.ErrShort},
	}
	for _, x := range table {
		if s, n, err := codec.Text(x.b); s != "" || n != 0 || err != x.want {
			t.Errorf("%s: Text = %q, %d, %d, want error %d", x.name, s, n, err, x.want)
		}
	}
}
