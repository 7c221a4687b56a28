package codec_test

import (
	"bytes"
	"hash/crc32"
	"math"
	"testing"

	"clusterlocks/api"
	"clusterlocks/codec"
)

// noise returns n bytes that follow no simple rule.
func noise(n int) []byte {
	out := make([]byte, n)
	x := uint32(n + 1)
	for i := range out {
		x = x*1664525 + 1013904223
		out[i] = byte(x >> 24)
	}
	return out
}

// P1.3: Checksum is the CRC-32 of IEEE 802.3.
func TestChecksum(t *testing.T) {
	table := []struct {
		s    string
		want uint32
	}{
		{"", 0},
		{"\x00", 0xd202ef8d},
		{"a", 0xe8b7be43},
		{"123456789", 3421780262},
		{"\xff\xff\xff\xff", 0xffffffff},
	}
	for _, x := range table {
		if got := codec.Checksum([]byte(x.s)); got != x.want {
			t.Errorf("Checksum(%q) = %d, want %d", x.s, got, x.want)
		}
	}
	for i := range 256 {
		if got := codec.Checksum([]byte{byte(i)}); got != crc32.ChecksumIEEE([]byte{byte(i)}) {
			t.Errorf("Checksum of the byte %d = %d", i, got)
		}
	}
	for _, size := range []int{2, 3, 4, 5, 31, 32, 33, 255, 256, 4096, 5000} {
		if b := noise(size); codec.Checksum(b) != crc32.ChecksumIEEE(b) {
			t.Errorf("Checksum of %d bytes", size)
		}
	}
}

// sizes are the lengths of payloads at which the bytes of a frame change their form.
var sizes = []int{0, 1, 2, 126, 127, 128, 129, 1024, 1025, 4095, 4096}

// P1.4: a frame is the length, the payload, and the checksum with its highest byte first.
func TestFrame(t *testing.T) {
	for _, size := range sizes {
		payload := noise(size)
		sum := crc32.ChecksumIEEE(payload)
		want := append(codec.PutUint(nil, uint64(size)), payload...)
		want = append(want, byte(sum>>24), byte(sum>>16), byte(sum>>8), byte(sum))
		if got, err := codec.Frame(payload); err != api.OK || !bytes.Equal(got, want) {
			t.Errorf("Frame of %d bytes: %d bytes, %d", size, len(got), err)
		}
	}
	if got, err := codec.Frame(nil); err != api.OK || !bytes.Equal(got, []byte{0, 0, 0, 0, 0}) {
		t.Errorf("Frame(nil) = %v, %d", got, err)
	}
	if got, err := codec.Frame([]byte("a")); err != api.OK || !bytes.Equal(got, []byte{1, 'a', 0xe8, 0xb7, 0xbe, 0x43}) {
		t.Errorf("Frame(a) = %v, %d", got, err)
	}
	for _, size := range []int{4097, 10000} {
		if got, err := codec.Frame(noise(size)); len(got) != 0 || err != api.ErrTooLong {
			t.Errorf("Frame of %d bytes: %d bytes, %d", size, len(got), err)
		}
	}
}

// P1.4, Consequences: Unframe reads back what Frame wrote, whatever follows it, and refuses every proper prefix.
func TestUnframeReadsBack(t *testing.T) {
	for _, size := range sizes {
		payload := noise(size)
		b, _ := codec.Frame(payload)
		for _, tail := range [][]byte{nil, {0}, {255, 255}, b} {
			got, n, err := codec.Unframe(append(b[:len(b):len(b)], tail...))
			if !bytes.Equal(got, payload) || n != len(b) || err != api.OK {
				t.Errorf("Unframe of %d bytes, then %d: %d bytes, %d, %d", size, len(tail), len(got), n, err)
			}
		}
		for i := range b {
			if got, n, err := codec.Unframe(b[:i]); len(got) != 0 || n != 0 || err != api.ErrShort {
				t.Errorf("Unframe of %d bytes of %d: %d bytes, %d, %d", i, len(b), len(got), n, err)
			}
		}
	}
}

// P1.4: the errors of Unframe, in their order.
func TestUnframeErrors(t *testing.T) {
	long := noise(4097)
	sum := crc32.ChecksumIEEE(long)
	whole := append(codec.PutUint(nil, 4097), long...)
	whole = append(whole, byte(sum>>24), byte(sum>>16), byte(sum>>8), byte(sum))
	table := []struct {
		name string
		b    []byte
		want api.Errno
	}{
		{"no bytes", nil, api.ErrShort},
		{"the length ends early", []byte{128}, api.ErrShort},
		{"the length is not the shortest", []byte{128, 0, 0, 0, 0, 0}, api.ErrForm},
		{"the length is greater than 64 bits", run(255, 9, 2), api.ErrForm},
		{"more than MaxFrame bytes, all of them there", whole, api.ErrTooLong},
		{"too long comes ahead of short", codec.PutUint(nil, 4097), api.ErrTooLong},
		{"a length that no int has", codec.PutUint(nil, math.MaxUint64), api.ErrTooLong},
		{"a length that would be negative", codec.PutUint(nil, 1<<63), api.ErrTooLong},
		{"a length beyond 32 bits", append(codec.PutUint(nil, 1<<32), 0, 0, 0, 0), api.ErrTooLong},
		{"MaxFrame, no bytes", codec.PutUint(nil, 4096), api.ErrShort},
		{"no checksum", []byte{1, 'a'}, api.ErrShort},
		{"short comes ahead of the checksum", []byte{1, 'a', 9, 9, 9}, api.ErrShort},
		{"the payload of no bytes has checksum 0", []byte{0, 0, 0, 0, 1}, api.ErrChecksum},
		{"the lowest byte first", []byte{1, 'a', 0x43, 0xbe, 0xb7, 0xe8}, api.ErrChecksum},
		{"another payload", []byte{1, 'b', 0xe8, 0xb7, 0xbe, 0x43}, api.ErrChecksum},
	}
	for _, x := range table {
		if got, n, err := codec.Unframe(x.b); len(got) != 0 || n != 0 || err != x.want {
			t.Errorf("%s: Unframe = %v, %d, %d, want error %d", x.name, got, n, err, x.want)
		}
	}
}

// P1.4: a changed bit of the payload or the checksum is seen, and so is any change within 32 bits in a row of the payload.
func TestUnframeSeesChanges(t *testing.T) {
	b, _ := codec.Frame(noise(100))
	for bit := 8; bit < 8*len(b); bit++ {
		b[bit/8] ^= 1 << (bit % 8)
		if got, n, err := codec.Unframe(b); len(got) != 0 || n != 0 || err != api.ErrChecksum {
			t.Errorf("bit %d changed: %d bytes, %d, %d", bit, len(got), n, err)
		}
		b[bit/8] ^= 1 << (bit % 8)
	}
	for at := 1; at+4 <= 101; at++ {
		for i, c := range noise(4) {
			b[at+i] ^= c
		}
		if _, _, err := codec.Unframe(b); err != api.ErrChecksum {
			t.Errorf("four bytes from %d on changed: %d", at, err)
		}
		for i, c := range noise(4) {
			b[at+i] ^= c
		}
	}
	if _, _, err := codec.Unframe(b); err != api.OK {
		t.Errorf("the frame as it was: %d", err)
	}
}
