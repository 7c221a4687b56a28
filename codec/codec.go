// Package codec is layer 1: varints, strings and frames (shared/doc/01-codec.md).
package codec

import (
	"clusterlocks/api"
)

// polynomial is that of CRC-32, with its bits reflected.
const polynomial = 0xEDB88320

// checksumBytes is the number of bytes of a frame's checksum.
const checksumBytes = 4

// PutUint returns b followed by the varint of v.
func PutUint(b []byte, v uint64) []byte {
	// Without spare capacity append has to move to new memory, so that nothing is written behind the caller's bytes.
	out := b[:len(b):len(b)]
	for v > 127 {
		out = append(out, byte(v&127)|128)
		v >>= 7
	}
	return append(out, byte(v))
}

// Uint reads a varint at the beginning of b; it returns the number and the number of bytes it has.
func Uint(b []byte) (uint64, int, api.Errno) {
	var v uint64
	for i, c := range b {
		// The tenth byte has room for the 64th bit only; as it cannot announce another byte, the loop ends here at the latest.
		if i == 9 && c > 1 {
			return 0, 0, api.ErrForm
		}
		v |= uint64(c&127) << (7 * i)
		if c > 127 {
			continue
		}
		if c == 0 && i > 0 {
			return 0, 0, api.ErrForm
		}
		return v, i + 1, api.OK
	}
	return 0, 0, api.ErrShort
}

// PutText returns b followed by the varint of the length of s and the bytes of s.
func PutText(b []byte, s string) []byte {
	return append(PutUint(b, uint64(len(s))), s...)
}

// Text reads what PutText writes; it returns the string and the number of bytes read.
func Text(b []byte) (string, int, api.Errno) {
	start, end, err := span(b, api.MaxText)
	if err != api.OK {
		return "", 0, err
	}
	if len(b) < end {
		return "", 0, api.ErrShort
	}
	return string(b[start:end]), end, api.OK
}

// span reads the length at the beginning of b, at most limit; it returns where the bytes that it counts begin and end. They may end behind b.
func span(b []byte, limit uint64) (int, int, api.Errno) {
	size, start, err := Uint(b)
	if err != api.OK {
		return 0, 0, err
	}
	// Compared before it becomes an int, which a great length would not fit.
	if size > limit {
		return 0, 0, api.ErrTooLong
	}
	return start, start + int(size), api.OK
}

// Checksum returns the CRC-32 of b (IEEE 802.3).
func Checksum(b []byte) uint32 {
	sum := ^uint32(0)
	for _, c := range b {
		sum ^= uint32(c)
		for range 8 {
			// The mask is all ones if the bit that is shifted out is set, else zero.
			mask := -(sum & 1)
			sum = sum>>1 ^ polynomial&mask
		}
	}
	return ^sum
}

// Frame returns the length of payload, payload and its checksum.
func Frame(payload []byte) ([]byte, api.Errno) {
	if len(payload) > api.MaxFrame {
		return nil, api.ErrTooLong
	}
	b := PutUint(nil, uint64(len(payload)))
	b = append(b, payload...)
	return putChecksum(b, Checksum(payload)), api.OK
}

func putChecksum(b []byte, sum uint32) []byte {
	return append(b, byte(sum>>24), byte(sum>>16), byte(sum>>8), byte(sum))
}

// Unframe reads a frame at the beginning of b; it returns its payload and the number of bytes of the frame.
func Unframe(b []byte) ([]byte, int, api.Errno) {
	start, end, err := span(b, api.MaxFrame)
	if err != api.OK {
		return nil, 0, err
	}
	if len(b) < end+checksumBytes {
		return nil, 0, api.ErrShort
	}
	payload := append([]byte(nil), b[start:end]...)
	if readChecksum(b[end:]) != Checksum(payload) {
		return nil, 0, api.ErrChecksum
	}
	return payload, end + checksumBytes, api.OK
}

func readChecksum(b []byte) uint32 {
	return uint32(b[0])<<24 | uint32(b[1])<<16 | uint32(b[2])<<8 | uint32(b[3])
}
