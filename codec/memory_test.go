package codec_test

import (
	"bytes"
	"testing"

	"clusterlocks/api"
	"clusterlocks/codec"
)

// R2: the bytes between the length and the capacity of an argument are not written, and results do not share them.
func TestAppendsToCopy(t *testing.T) {
	calls := []struct {
		name string
		put  func(b []byte) []byte
	}{
		{"PutUint of 0", func(b []byte) []byte { return codec.PutUint(b, 0) }},
		{"PutUint of 300", func(b []byte) []byte { return codec.PutUint(b, 300) }},
		{"PutText of no bytes", func(b []byte) []byte { return codec.PutText(b, "") }},
		{"PutText of three bytes", func(b []byte) []byte { return codec.PutText(b, "abc") }},
	}
	for _, x := range calls {
		for length := range 3 {
			room := bytes.Repeat([]byte{77}, 20)
			first, second := x.put(room[:length]), x.put(room[:length])
			want := bytes.Clone(first)
			for i := range second {
				second[i]++
			}
			if !bytes.Equal(room, bytes.Repeat([]byte{77}, 20)) {
				t.Errorf("%s behind %d bytes changed its argument: %v", x.name, length, room)
			}
			for i := range room {
				room[i] = 3
			}
			if !bytes.Equal(first, want) {
				t.Errorf("%s behind %d bytes: results share memory", x.name, length)
			}
		}
	}
}

// R2: a payload and a frame are memory of their own, and reading changes nothing.
func TestFramesAreCopies(t *testing.T) {
	payload := []byte("some bytes")
	b, _ := codec.Frame(payload[:4])
	got, _, _ := codec.Unframe(b)
	s, _, _ := codec.Text(codec.PutText(nil, "text"))
	if string(payload) != "some bytes" {
		t.Errorf("Frame changed its argument: %q", payload)
	}
	payload[0] = 'X'
	if again, _, err := codec.Unframe(b); err != api.OK || string(again) != "some" {
		t.Errorf("the frame shares memory with the payload: %q, %d", again, err)
	}
	b[1] = 'Y'
	if string(got) != "some" || s != "text" {
		t.Errorf("the payload shares memory with the frame: %q", got)
	}
	got = append(got, "????"...)
	if string(b[1:5]) != "Yome" || b[5] == '?' {
		t.Errorf("appending to the payload changed the frame: %v, %q", b, got)
	}
}

// R2: what lies behind the length of an argument is not read.
func TestCapacityIsNotRead(t *testing.T) {
	number := []byte{128, 1}
	if _, _, err := codec.Uint(number[:1]); err != api.ErrShort {
		t.Errorf("Uint: %d", err)
	}
	text := codec.PutText(nil, "abc")
	if _, _, err := codec.Text(text[:3]); err != api.ErrShort {
		t.Errorf("Text: %d", err)
	}
	frame, _ := codec.Frame([]byte("abc"))
	for i := range frame {
		if _, _, err := codec.Unframe(frame[:i]); err != api.ErrShort {
			t.Errorf("Unframe of %d bytes: %d", i, err)
		}
	}
}

// R2: a nil slice and an empty one are equivalent.
func TestNilIsEmpty(t *testing.T) {
	empty := []byte{}
	if !bytes.Equal(codec.PutUint(empty, 5), codec.PutUint(nil, 5)) || !bytes.Equal(codec.PutText(empty, "q"), codec.PutText(nil, "q")) {
		t.Error("PutUint or PutText")
	}
	a, ea := codec.Frame(empty)
	b, eb := codec.Frame(nil)
	if !bytes.Equal(a, b) || ea != eb || codec.Checksum(empty) != codec.Checksum(nil) {
		t.Error("Frame or Checksum")
	}
	if got, n, err := codec.Unframe(a); len(got) != 0 || n != 5 || err != api.OK {
		t.Errorf("Unframe of a frame of no bytes = %v, %d, %d", got, n, err)
	}
}

// R1: no input makes a function panic, and what is accepted lies within the input.
func TestAnyBytes(t *testing.T) {
	for size := range 3000 {
		b := noise(size)
		if size > 1 {
			b[0] = byte(size % 200)
			b[1] = byte(size / 40)
		}
		_, n, err := codec.Uint(b)
		checkSpan(t, "Uint", b, n, err)
		_, n, err = codec.Text(b)
		checkSpan(t, "Text", b, n, err)
		_, n, err = codec.Unframe(b)
		checkSpan(t, "Unframe", b, n, err)
	}
}

func checkSpan(t *testing.T, name string, b []byte, n int, err api.Errno) {
	t.Helper()
	if err == api.OK && (n < 1 || n > len(b)) || err != api.OK && n != 0 {
		t.Errorf("%s of %d bytes: %d, %d", name, len(b), n, err)
	}
}
