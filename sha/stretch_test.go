package sha_test

import (
	"math"
	"strings"
	"testing"

	"gatehouse/api"
	"gatehouse/sha"
)

// stretched answers what a password is kept as, as the chapter says it, one round behind the other.
func stretched(salt, password string, rounds int) string {
	head := []byte{0}
	for n, i := len(salt), 0; i < 8; i++ {
		head = append(head, byte(n%256))
		n /= 256
	}
	d := model(string(head) + salt + password)
	for range rounds {
		d = model("\x01" + d)
	}
	return d
}

func stretches(t *testing.T, salt, password string, rounds int) {
	t.Helper()
	if got, e := sha.Stretch(salt, password, rounds); got != stretched(salt, password, rounds) || e != api.OK {
		t.Errorf("Stretch of a salt of %d bytes, a password of %d, %d rounds = %s, %d", len(salt), len(password), rounds, digits(got), e)
	}
}

// TestStretchWord: one word that was worked out apart from this program.
func TestStretchWord(t *testing.T) {
	for rounds, want := range map[int]string{
		0: "815942949d4ce34e82b8be570f814449ba852b9e002f0efffac5aae2a2cc7564",
		2: "1151fa5bd797d1d4290d737288c5303cfe729e74e07dbf014dea498388218177",
	} {
		if got, e := sha.Stretch("salt", "secret", rounds); digits(got) != want || e != api.OK {
			t.Errorf("%d rounds: %s, %d", rounds, digits(got), e)
		}
	}
}

// TestStretchRounds: each number of rounds, each the next one of the one ahead.
func TestStretchRounds(t *testing.T) {
	d, e := sha.Stretch("salt", "secret", 0)
	errno(t, "0 rounds", e, api.OK)
	if d != sha.Sum("\x00\x04\x00\x00\x00\x00\x00\x00\x00saltsecret") {
		t.Error("0 rounds: ", digits(d))
	}
	for rounds := 1; rounds <= 1000; rounds++ {
		next, e := sha.Stretch("salt", "secret", rounds)
		if next != sha.Sum("\x01"+d) || len(next) != 32 || e != api.OK {
			t.Fatalf("%d rounds: %s, %d", rounds, digits(next), e)
		}
		d = next
	}
	stretches(t, "salt", "secret", 1000)
}

func TestStretchRefuses(t *testing.T) {
	for _, rounds := range []int{-1, -2, -1000, math.MinInt, 1001, 1002, 1 << 16, 1 << 32, math.MaxInt} {
		for _, s := range []string{"", "salt"} {
			if d, e := sha.Stretch(s, s, rounds); d != "" || e != api.ErrArg {
				t.Errorf("%d rounds: %q, %d", rounds, d, e)
			}
		}
	}
}

// TestStretchLengths: of salts whose length has one byte, two, four; of none; and of passwords alike.
func TestStretchLengths(t *testing.T) {
	for _, n := range []int{0, 1, 15, 16, 17, 46, 47, 55, 64, 255, 256, 257, 1000, 65535, 65536, 65537, 1<<24 - 1, 1 << 24} {
		s := pattern(n)
		stretches(t, s, "secret", 1)
		stretches(t, "salt", s, 1)
		stretches(t, s, "", 0)
		stretches(t, "", s, 0)
	}
}

func TestStretchAnyBytes(t *testing.T) {
	d := dice(6)
	for range 2000 {
		stretches(t, d.text(), d.text(), d.roll(25))
	}
}

// TestStretchApart: the same bytes, cut into salt and password elsewhere, are kept as something else.
func TestStretchApart(t *testing.T) {
	for _, s := range []string{pattern(80), strings.Repeat("\x00", 300)} {
		seen := map[string]int{}
		for cut := range len(s) + 1 {
			d, e := sha.Stretch(s[:cut], s[cut:], 2)
			errno(t, "Stretch", e, api.OK)
			seen[d]++
		}
		if len(seen) != len(s)+1 {
			t.Errorf("%d of %d are unlike", len(seen), len(s)+1)
		}
	}
}
