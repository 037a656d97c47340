package sha_test

import (
	"testing"

	"gatehouse/sha"
)

func TestNew(t *testing.T) {
	h, other := of(t), of(t)
	has(t, h, "")
	h.Add("abc")
	has(t, h, "abc")
	has(t, other, "")
	has(t, of(t), "")
}

func TestAdd(t *testing.T) {
	h := of(t, "a", "", "bc")
	has(t, h, "abc")
	h.Add("")
	has(t, h, "abc")
	h.Add(pattern(200))
	has(t, h, "abc"+pattern(200))
	h.Add("\x00")
	has(t, h, "abc"+pattern(200)+"\x00")
}

// TestAddBytewise: byte by byte, asked behind each one.
func TestAddBytewise(t *testing.T) {
	s := pattern(400)
	h := of(t)
	for n := range len(s) {
		has(t, h, s[:n])
		h.Add(s[n : n+1])
	}
	has(t, h, s)
}

// TestTwoCuts: each cut in two, of each length over some blocks.
func TestTwoCuts(t *testing.T) {
	whole := pattern(200)
	for n := range len(whole) + 1 {
		want := model(whole[:n])
		for cut := range n + 1 {
			h := of(t, whole[:cut], whole[cut:n])
			if h.Sum() != want || h.Len() != n {
				t.Fatalf("%d bytes, cut at %d: %s", n, cut, digits(h.Sum()))
			}
		}
	}
}

// TestThreeCuts: cuts in three about the ends of blocks.
func TestThreeCuts(t *testing.T) {
	whole := pattern(260)
	edges := []int{0, 1, 54, 55, 56, 63, 64, 65, 119, 120, 127, 128, 129, 191, 192, 193, 256, 260}
	want := model(whole)
	for i, first := range edges {
		for _, second := range edges[i:] {
			if got := of(t, whole[:first], whole[first:second], whole[second:]).Sum(); got != want {
				t.Fatalf("cut at %d and %d: %s", first, second, digits(got))
			}
		}
	}
}

// TestAnyCuts: many cuts, with sums and copies in between that change nothing.
func TestAnyCuts(t *testing.T) {
	d := dice(2)
	for range 2000 {
		s := d.text() + d.text()
		h := of(t)
		for at := 0; at < len(s); {
			n := min(d.roll([]int{2, 10, 70, 300}[d.roll(4)]), len(s)-at)
			h.Add(s[at : at+n])
			at += n
			switch d.roll(4) {
			case 0:
				has(t, h, s[:at])
			case 1:
				h = h.Copy()
			case 2:
				h.Copy().Add("other")
			}
		}
		has(t, h, s)
		if sha.Sum(s) != h.Sum() {
			t.Fatalf("Sum(%q) is another one", s)
		}
	}
}

// TestSumStays: behind a sum, more may be added.
func TestSumStays(t *testing.T) {
	whole := pattern(150)
	for n := range len(whole) + 1 {
		h := of(t, whole[:n])
		first := h.Sum()
		if first != h.Sum() || h.Len() != n {
			t.Fatalf("%d bytes: another sum behind the first", n)
		}
		h.Add(whole[n:])
		has(t, h, whole)
	}
}

// TestCopy: whatever is added to the one, the other one stays.
func TestCopy(t *testing.T) {
	whole := pattern(150)
	for n := range len(whole) + 1 {
		s := whole[:n]
		h := of(t, s)
		c := h.Copy()
		if c == h {
			t.Fatal("the copy is the same one")
		}
		has(t, c, s)
		for _, more := range []string{"x", pattern(80)} {
			kept := c.Sum()
			h.Add(more)
			if c.Sum() != kept || c.Len() == h.Len() {
				t.Fatalf("%d bytes: the copy changes", n)
			}
		}
		c.Add("yz")
		has(t, h, s+"x"+pattern(80))
		has(t, c, s+"yz")
		has(t, c.Copy(), s+"yz")
	}
}

// TestRows: long rows of calls on many hashes, held against what was added to each.
func TestRows(t *testing.T) {
	d := dice(3)
	hashes, texts := []*sha.Hash{of(t)}, []string{""}
	for range 20000 {
		i := d.roll(len(hashes))
		switch what := d.roll(10); {
		case what < 6:
			s := d.text()
			hashes[i].Add(s)
			texts[i] += s
		case what < 8 && len(hashes) < 8:
			hashes, texts = append(hashes, hashes[i].Copy()), append(texts, texts[i])
		case what < 9 && len(texts[i]) > 2000:
			hashes[i], texts[i] = of(t), ""
		default:
			has(t, hashes[i], texts[i])
		}
	}
	for i, h := range hashes {
		has(t, h, texts[i])
	}
}

func TestNil(t *testing.T) {
	var h *sha.Hash
	h.Add("abc")
	h.Add("")
	if h.Sum() != "" || h.Len() != 0 || h.Copy() != nil {
		t.Error(h.Sum(), h.Len(), h.Copy())
	}
}
