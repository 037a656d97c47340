package label_test

import (
	"strings"
	"testing"

	"gatehouse/api"
	"gatehouse/label"
)

func parse(t *testing.T, s string) api.Label {
	t.Helper()
	l, e := label.Parse(s)
	if e != api.OK {
		t.Fatal(s, e)
	}
	return l
}

func TestBytes(t *testing.T) {
	for _, x := range []struct {
		l api.Label
		s string
	}{
		{of(0), "\x00\x00"},
		{of(5), "\x05\x00"},
		{of(2, 5, 0), "\x02\x01\x05\x00\x00\x00\x00\x00\x00\x00\x00"},
		{of(2, 1, 4, api.MaxId, 5), "\x02\x02\x01\x00\x00\x00\x00\x00\x00\x00\x04\xff\xff\xff\xff\xff\xff\xff\x1f\x05"},
		{of(1, 0x0102030405060708, 3), "\x01\x01\x08\x07\x06\x05\x04\x03\x02\x01\x03"},
	} {
		if got := label.Bytes(x.l); got != x.s {
			t.Errorf("%v: %q", x.l, got)
		}
		got, e := label.Read(x.s)
		answers(t, "Read", got, e, x.l, api.OK)
	}
}

func TestReadRefuses(t *testing.T) {
	one := "\x05\x00\x00\x00\x00\x00\x00\x00\x04"
	for _, s := range []string{
		"", "\x02", "\x02\x01", "\x02\x00\x00", "\x02\x00" + one, "\x02\x02" + one,
		"\x02\x01" + one[:8], "\x02\x01" + one + "\x00", "\x02\x01" + one + one,
		"\x06\x00", "\xff\x00", "\x06\x01" + one, "\x04\x01" + one,
		"\x02\x01\x05\x00\x00\x00\x00\x00\x00\x00\x06",
		"\x02\x01\x05\x00\x00\x00\x00\x00\x00\x00\xff",
		"\x02\x01\x05\x00\x00\x00\x00\x00\x00\x00\x02",
		"\x02\x01\x00\x00\x00\x00\x00\x00\x00\x00\x04",
		"\x02\x01\x00\x00\x00\x00\x00\x00\x00\x20\x04",
		"\x02\x01\x05\x00\x00\x00\x00\x00\x00\x80\x04",
		"\x02\x01\xff\xff\xff\xff\xff\xff\xff\xff\x04",
		"\x02\x02" + one + one,
		"\x02\x02" + one + "\x04\x00\x00\x00\x00\x00\x00\x00\x04",
		label.Bytes(api.Label{Def: 2, Cats: row(1, 17, 4)}),
		label.Bytes(api.Label{Def: 2, Cats: row(1, 255, 4)}),
		"{1}",
	} {
		got, e := label.Read(s)
		if e != api.ErrForm || !isZero(got) {
			t.Errorf("%q: %v %d", s, got, e)
		}
	}
}

func TestText(t *testing.T) {
	for _, x := range []struct {
		l api.Label
		s string
	}{
		{of(0), "{*}"}, {of(1), "{0}"}, {of(2), "{1}"}, {of(3), "{2}"}, {of(4), "{3}"}, {of(5), "{J}"},
		{of(2, 3, 4, 5, 0), "{1 3:3 5:*}"},
		{of(3, 1, 1, 10, 2, 200, 5), "{2 1:0 10:1 200:J}"},
		{of(2, api.MaxId, 4), "{1 2305843009213693951:3}"},
	} {
		if got := label.Text(x.l); got != x.s {
			t.Errorf("%v: %q", x.l, got)
		}
		got, e := label.Parse(x.s)
		answers(t, x.s, got, e, x.l, api.OK)
	}
}

func TestParseRefuses(t *testing.T) {
	for _, s := range []string{
		"", "{", "}", "{}", "}{", "1", "{1", "1}", "{{1}", "{1}}", "[1]", "{ 1}", "{1 }", " {1}", "{1} ", "{1}\n", "\x00",
		"{4}", "{-1}", "{j}", "{H}", "{12}", "{01}", "{1:1}", "{?}", "{\xff}",
		"{1 5}", "{1 5:}", "{1 :3}", "{1 :}", "{1 5:4}", "{1 5:33}", "{1 5:3:3}", "{1 5::3}", "{1 5 :3}", "{1 5: 3}", "{1 5:?}",
		"{1 05:3}", "{1 0:3}", "{1 00:3}", "{1 -5:3}", "{1 +5:3}", "{1 5_0:3}", "{1 0x5:3}", "{1 5.0:3}", "{1 a:3}", "{1 5a:3}", "{1 /:3}", "{1 \xd9\xa5:3}",
		"{1 2305843009213693952:3}", "{1 9223372036854775807:3}", "{1 9223372036854775808:3}",
		"{1 18446744073709551621:3}", "{1 18446744073709551616:3}", "{1 99999999999999999999999:3}", "{1 23058430092136939510:3}",
		"{1 5:1}", "{1 6:3 5:3}", "{1 5:3 5:3}", "{1 5:3 5:2}", "{1  5:3}", "{1 5:3  6:3}", "{1 5:3,6:3}", "{1\t5:3}", "{5:3}", "{5:3 1}",
		label.Text(api.Label{Def: 2, Cats: row(1, 17, 4)}),
		label.Text(api.Label{Def: 2, Cats: row(1, 18, 4)}),
		"{1" + strings.Repeat(" ", 100000) + "}",
		"{1 " + strings.Repeat("9", 100000) + ":3}",
	} {
		got, e := label.Parse(s)
		if e != api.ErrForm || !isZero(got) {
			t.Errorf("%q: %v %d", s, got, e)
		}
	}
}

// TestThereAndBack: bytes and texts are those of one label alone, and come back.
func TestThereAndBack(t *testing.T) {
	texts, rows := map[string]int{}, map[string]int{}
	labels := append(all(), api.Label{Def: 2, Cats: row(1, 16, 4)}, api.Label{Def: 2, Cats: row(api.MaxId-15, 16, 0)})
	for _, l := range labels {
		got, e := label.Read(label.Bytes(l))
		answers(t, "Read of Bytes", got, e, l, api.OK)
		got, e = label.Parse(label.Text(l))
		answers(t, "Parse of Text", got, e, l, api.OK)
		texts[label.Text(l)]++
		rows[label.Bytes(l)]++
	}
	if len(texts) != len(labels) || len(rows) != len(labels) {
		t.Error(len(texts), len(rows), len(labels))
	}
}

// TestAlmostTexts: whatever sign is put in the place of another, left out or put in, what is parsed has just that text.
func TestAlmostTexts(t *testing.T) {
	const signs = "*0123456J{}: -+a\x00\xff"
	base := "{1 3:3 52:* 100:J}"
	try := func(s string) {
		l, e := label.Parse(s)
		if e == api.OK && (!label.Right(l) || label.Text(l) != s) || e != api.OK && (e != api.ErrForm || !isZero(l)) {
			t.Errorf("%q: %v %d", s, l, e)
		}
	}
	for i := range len(base) {
		try(base[:i] + base[i+1:])
		for j := range len(signs) {
			try(base[:i] + signs[j:j+1] + base[i+1:])
			try(base[:i] + signs[j:j+1] + base[i:])
		}
	}
}

// TestAlmostBytes: the same of bytes.
func TestAlmostBytes(t *testing.T) {
	base := label.Bytes(of(2, 3, 4, 5, 0))
	try := func(s string) {
		l, e := label.Read(s)
		if e == api.OK && (!label.Right(l) || label.Bytes(l) != s) || e != api.OK && (e != api.ErrForm || !isZero(l)) {
			t.Errorf("%q: %v %d", s, l, e)
		}
	}
	for i := range len(base) {
		try(base[:i])
		for b := range 256 {
			try(base[:i] + string([]byte{byte(b)}) + base[i+1:])
		}
	}
}
