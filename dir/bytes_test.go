package dir_test

import (
	"slices"
	"strings"
	"testing"

	"gatehouse/api"
	"gatehouse/dir"
)

const example = "\x01a\x02\x09\x00\x00\x00\x00\x00\x00\x00\x01b\x01\x07\x00\x00\x00\x00\x00\x00\x00"

// refusesBytes tells whether Decode answers ErrForm, and nothing else.
func refusesBytes(t *testing.T, s string) {
	t.Helper()
	if got, e := dir.Decode(s); e != api.ErrForm || len(got) > 0 {
		t.Errorf("Decode(%q) = %v, %d", s, got, e)
	}
}

func TestExample(t *testing.T) {
	l := put(t, b, a)
	if s, e := dir.Encode(l); e != api.OK || s != example {
		t.Errorf("Encode(%v) = %q, %d", l, s, e)
	}
	if got, e := dir.Decode(example); e != api.OK || !slices.Equal(got, []api.Name{a, b}) {
		t.Errorf("Decode = %v, %d", got, e)
	}
}

func TestDecodeUndoesEncode(t *testing.T) {
	for _, l := range edgeLists() {
		s, e := dir.Encode(l)
		if e != api.OK || s != bytesOf(l) {
			t.Errorf("Encode(%v) = %q, %d", l, s, e)
		}
		if got, e := dir.Decode(s); e != api.OK || !slices.Equal(got, l) {
			t.Errorf("Decode(%q) = %v, %d", s, got, e)
		}
	}
}

func TestUnlikeBytes(t *testing.T) {
	of := map[string][]api.Name{}
	for _, l := range edgeLists() {
		s, _ := dir.Encode(l)
		if before, ok := of[s]; ok && !slices.Equal(before, l) {
			t.Errorf("%v and %v have the same bytes", before, l)
		}
		of[s] = l
	}
}

func TestEncodeErrors(t *testing.T) {
	for _, l := range wrongLists() {
		if s, e := dir.Encode(l); e != api.ErrForm || s != "" {
			t.Errorf("Encode(%v) = %q, %d", l, s, e)
		}
	}
}

// Bytes of lists that aren't right are no directory's, where a kind's byte says it.
func TestDecodeErrors(t *testing.T) {
	for _, l := range wrongLists() {
		says := true
		for _, n := range l {
			says = says && n.Kind >= 0 && n.Kind <= 255 && len(n.Name) <= 255
		}
		if says {
			refusesBytes(t, bytesOf(l))
		}
	}
	for _, s := range []string{"\x00", "\xff", "\x00\x01\x05\x00\x00\x00\x00\x00\x00\x00", "\x01a\x02", example + "\x00", example + "x", example + example, "x" + example, strings.Repeat("\x00", 4096)} {
		refusesBytes(t, s)
	}
}

// Bytes that end within an entry are no directory's.
func TestDecodeEnds(t *testing.T) {
	l := []api.Name{a, file("aa"), b}
	s := bytesOf(l)
	for n := range len(s) {
		if n == 0 || n == 11 || n == 23 {
			continue
		}
		refusesBytes(t, s[:n])
	}
	for i, n := range []int{0, 11, 23} {
		if got, e := dir.Decode(s[:n]); e != api.OK || !slices.Equal(got, l[:i]) {
			t.Errorf("Decode of %d bytes = %v, %d", n, got, e)
		}
	}
	refusesBytes(t, bytesOf(ending(12))[:4095])
}

func TestDecodeTooLong(t *testing.T) {
	if got, e := dir.Decode(bytesOf(ending(12))); e != api.OK || !slices.Equal(got, ending(12)) {
		t.Errorf("of 4096 bytes: %d entries, %d", len(got), e)
	}
	refusesBytes(t, bytesOf(ending(13)))
	refusesBytes(t, bytesOf(row(98)))
	refusesBytes(t, bytesOf(ending(12))+"\x01")
	refusesBytes(t, strings.Repeat("\xff", 1<<20))
	refusesBytes(t, strings.Repeat("\x00", 1<<20))
}

// Each byte of a number counts, and those above MaxId can't be.
func TestNumbers(t *testing.T) {
	for shift := range 64 {
		for _, id := range []uint64{1 << shift, 1<<shift - 1, 1<<shift | 1} {
			l := []api.Name{{Name: "n", Kind: api.AFile, Id: int(id)}}
			s := bytesOf(l)
			if id < 1 || id > api.MaxId {
				refusesBytes(t, s)
				continue
			}
			if got, e := dir.Decode(s); e != api.OK || !slices.Equal(got, l) {
				t.Errorf("Decode(%q) = %v, %d", s, got, e)
			}
			if got, e := dir.Encode(l); e != api.OK || got != s {
				t.Errorf("Encode(%v) = %q, %d", l, got, e)
			}
		}
	}
}

func TestKinds(t *testing.T) {
	for kind := range 256 {
		s := "\x01k" + string([]byte{byte(kind)}) + "\x05\x00\x00\x00\x00\x00\x00\x00"
		got, e := dir.Decode(s)
		if kind != api.AFile && kind != api.ADir {
			refusesBytes(t, s)
		} else if e != api.OK || !slices.Equal(got, []api.Name{{Name: "k", Kind: kind, Id: 5}}) {
			t.Errorf("Decode(%q) = %v, %d", s, got, e)
		}
	}
}
