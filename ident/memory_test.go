package ident_test

import (
	"bytes"
	"slices"
	"testing"

	"clusterlocks/api"
	"clusterlocks/ident"
)

// R2: PutProc writes nothing behind the length of its argument, and its results share no memory, for processes of both sorts.
func TestPutProcCopies(t *testing.T) {
	for _, p := range []api.Proc{proc(3, 99, 999), proc(9, 1, 1), {}} {
		for length := range 4 {
			room := bytes.Repeat([]byte{77}, 20)
			first, second := ident.PutProc(room[:length], p), ident.PutProc(room[:length], p)
			want := bytes.Clone(first)
			for i := range second {
				second[i]++
			}
			if second = append(second, 1, 2, 3); !bytes.Equal(room, bytes.Repeat([]byte{77}, 20)) {
				t.Errorf("PutProc of %v behind %d bytes changed its argument: %v", p, length, room)
			}
			for i := range room {
				room[i] = 3
			}
			if !bytes.Equal(first, want) {
				t.Errorf("PutProc of %v behind %d bytes: results share memory", p, length)
			}
		}
	}
}

// R2: SortProcs leaves its argument as it is, also behind its length, and its results share no memory.
func TestSortProcsCopies(t *testing.T) {
	a, b, c := proc(0, 1, 9), proc(0, 2, 1), proc(1, 1, 1)
	for _, list := range [][]api.Proc{{c, a, c, b}, {a, b, c}, {a}, {c, c}} {
		room := append(slices.Clone(list), proc(2, 2, 2), proc(2, 2, 1))
		was := slices.Clone(room)
		first, second := ident.SortProcs(room[:len(list)]), ident.SortProcs(room[:len(list)])
		want := slices.Clone(first)
		for i := range second {
			second[i] = api.Proc{}
		}
		if second = append(second, api.Proc{}); !slices.Equal(room, was) {
			t.Errorf("SortProcs(%v) changed its argument: %v", list, room)
		}
		clear(room)
		if !slices.Equal(first, want) {
			t.Errorf("SortProcs(%v): results share memory", list)
		}
	}
}

// R2: what lies behind the length of an argument is not read.
func TestCapacityIsNotRead(t *testing.T) {
	l := []api.Proc{proc(1, 1, 1), proc(0, 1, 1), proc(0, 1, 2)}
	if ident.HasProc(l[:1], l[1]) || ident.HasProc(l[:0], l[0]) {
		t.Error("HasProc")
	}
	if got := ident.SortProcs(l[:2]); !slices.Equal(got, []api.Proc{proc(0, 1, 1), proc(1, 1, 1)}) {
		t.Errorf("SortProcs = %v", got)
	}
	b := ident.PutProc(nil, proc(3, 99, 999))
	for i := range b {
		if _, _, err := ident.Proc(b[:i]); err != api.ErrShort {
			t.Errorf("Proc of %d bytes: %d", i, err)
		}
	}
}

// R2: HasProc and Proc change nothing.
func TestReadingChangesNothing(t *testing.T) {
	l := []api.Proc{proc(1, 1, 1), proc(0, 1, 1), proc(1, 1, 1)}
	was := slices.Clone(l)
	ident.HasProc(l, proc(0, 1, 1))
	if !slices.Equal(l, was) {
		t.Errorf("HasProc: %v", l)
	}
	for _, b := range [][]byte{{3, 99, 231, 7, 1}, {4, 1, 1}, {0, 128, 0}} {
		bytesWere := bytes.Clone(b)
		ident.Proc(b)
		if !bytes.Equal(b, bytesWere) {
			t.Errorf("Proc: %v, was %v", b, bytesWere)
		}
	}
}
