package sha_test

import (
	"crypto/sha256"
	"strings"
	"testing"

	"gatehouse/sha"
)

func TestExamples(t *testing.T) {
	for s, want := range map[string]string{
		"abc": "ba7816bf8f01cfea414140de5dae2223b00361a396177a9cb410ff61f20015ad",
		"":    "e3b0c44298fc1c149afbf4c8996fb92427ae41e4649b934ca495991b7852b855",
	} {
		if got := sha.Hex(sha.Sum(s)); got != want {
			t.Errorf("Hex(Sum(%q)) = %s, not %s", s, got, want)
		}
	}
}

// TestStandard: sums that are told beside FIPS 180-4.
func TestStandard(t *testing.T) {
	for _, x := range []struct{ s, want string }{
		{"abcdbcdecdefdefgefghfghighijhijkijkljklmklmnlmnomnopnopq", "248d6a61d20638b8e5c026930c3e6039a33ce45964ff2167f6ecedd419db06c1"},
		{"abcdefghbcdefghicdefghijdefghijkefghijklfghijklmghijklmnhijklmnoijklmnopjklmnopqklmnopqrlmnopqrsmnopqrstnopqrstu", "cf5b16a778af8380036ce59e7b0492370b249b11e8f07a51afac45037afee9d1"},
		{strings.Repeat("a", 1000000), "cdc76e5c9914fb9281a1c7e284d73e67f1809a48a497200e046d39ccc7112cd0"},
		{"\xbd", "68325720aabd7c82f30f554b313d0570c95accbb7dc4b5aae11204c08ffe732b"},
		{"\xc9\x8c\x8e\x55", "7abc22c0ae5af26ce93dbb94433a0e0b2e119d014f8e7f65bd56c61ccccd9504"},
		{strings.Repeat("\x00", 55), "02779466cdec163811d078815c633f21901413081449002f24aa3e80f0b88ef7"},
		{strings.Repeat("\x00", 56), "d4817aa5497628e7c77e6b606107042bbba3130888c5f47a375e6179be789fbb"},
		{strings.Repeat("\x00", 57), "65a16cb7861335d5ace3c60718b5052e44660726da4cd13bb745381b235a1785"},
		{strings.Repeat("\x00", 64), "f5a5fd42d16a20302798ef6ed309979b43003d2320d9f0e8ea9831a92759fb4b"},
		{strings.Repeat("\x00", 1000), "541b3e9daa09b20bf85fa273e5cbd3e80185aa4ec298e765db87742b70138a53"},
		{strings.Repeat("A", 1000), "c2e686823489ced2017f6059b8b239318b6364f6dcd835d0a519105a1eadd6e4"},
		{strings.Repeat("U", 1005), "f4d62ddec0f3dd90ea1380fa16a5ff8dc4c54b21740650f24afc4120903552b0"},
	} {
		if got := digits(sha.Sum(x.s)); got != x.want {
			t.Errorf("Sum of %d bytes, %q .. = %s, not %s", len(x.s), x.s[:1], got, x.want)
		}
	}
}

// TestLengths: each length over some blocks, so the ending stands in each place.
func TestLengths(t *testing.T) {
	for _, s := range []string{pattern(700), strings.Repeat("\x00", 700), strings.Repeat("\xff", 700), strings.Repeat("\x80", 700)} {
		for n := range len(s) + 1 {
			if got := sha.Sum(s[:n]); got != model(s[:n]) {
				t.Fatalf("Sum of %d bytes = %s, not %s", n, digits(got), digits(model(s[:n])))
			}
		}
	}
}

// TestBits: each bit of two blocks tells.
func TestBits(t *testing.T) {
	seen := map[string]int{}
	row := []byte(pattern(100))
	for i := range 8 * len(row) {
		row[i/8] ^= 1 << (i % 8)
		got := sha.Sum(string(row))
		if got != model(string(row)) {
			t.Errorf("with bit %d turned: %s", i, digits(got))
		}
		seen[got]++
		row[i/8] ^= 1 << (i % 8)
	}
	if len(seen) != 800 {
		t.Errorf("%d sums, not 800", len(seen))
	}
}

func TestAnyBytes(t *testing.T) {
	d := dice(1)
	for range 5000 {
		s := d.text()
		if got := sha.Sum(s); got != model(s) || len(got) != 32 {
			t.Fatalf("Sum(%q) = %q", s, got)
		}
	}
}

// TestManyBytes: from 2^29 bytes on, the number of bits is beyond 32 bits.
func TestManyBytes(t *testing.T) {
	t.Parallel()
	h, want := of(t), sha256.New()
	part := pattern(1 << 20)
	for range 1 << 9 {
		h.Add(part)
		want.Write([]byte(part))
	}
	if h.Sum() != string(want.Sum(nil)) || h.Len() != 1<<29 {
		t.Error("2^29 bytes: ", digits(h.Sum()), h.Len())
	}
	h.Add("abc")
	want.Write([]byte("abc"))
	if h.Sum() != string(want.Sum(nil)) || h.Len() != 1<<29+3 {
		t.Error("2^29 + 3 bytes: ", digits(h.Sum()), h.Len())
	}
}
