package space_test

import (
	"slices"
	"testing"

	"gatehouse/api"
	"gatehouse/space"
)

func TestExamples(t *testing.T) {
	l := put(t, seven)
	spans(t, l, 128, 64, api.ToWrite, api.Piece{In: 1, Id: 7, Off: 192, N: 64})
	refuses(t, l, 127, 2, api.ToRead, api.ErrFault)
	refuses(t, l, 130, 4, api.ToRun, api.ErrFault)
	l = put(t, seven, eight)
	spans(t, l, 190, 4, api.ToRead, api.Piece{In: 1, Id: 7, Off: 254, N: 2}, api.Piece{In: 1, Id: 8, Off: 0, N: 2})
}

func TestSpanWrong(t *testing.T) {
	l := put(t, seven, eight)
	for _, n := range []int{least, -1, 0, 4097, highest} {
		refuses(t, l, 128, n, api.ToRead, api.ErrArg)
		refuses(t, l, 0, n, api.ToRead, api.ErrArg)
	}
	for _, need := range []int{least, -1, 3, highest} {
		refuses(t, l, 128, 1, need, api.ErrArg)
		refuses(t, l, 0, 1, need, api.ErrArg)
	}
	for _, l := range wrongRows() {
		refuses(t, l, 64, 1, api.ToRead, api.ErrArg)
		refuses(t, l, last, 1, api.ToRead, api.ErrArg)
		if got, e := space.Find(l, 64, api.ToRead); e != api.ErrArg || len(got) > 0 {
			t.Errorf("Find(%v) = %v, %d", l, got, e)
		}
	}
}

func TestSpanNowhere(t *testing.T) {
	for _, need := range []int{api.ToRead, api.ToWrite, api.ToRun} {
		for _, addr := range []uint64{0, 1, 64, 1 << 32, 1 << 63, last} {
			refuses(t, nil, addr, 1, need, api.ErrFault)
			refuses(t, []api.Map{}, addr, 4096, need, api.ErrFault)
		}
	}
}

// Addresses that agree with mapped ones but for high bits are nowhere.
func TestSpanHighAddresses(t *testing.T) {
	l := []api.Map{{At: 0, Pages: 64, In: 1, Id: 7, Write: true, Run: true}, {At: api.MaxVa - 64, Pages: 64, In: 1, Id: 8, Write: true, Run: true}}
	for high := uint64(1 << 32); high > 0; high <<= 1 {
		for _, low := range []uint64{0, 63, 4095} {
			refuses(t, l, high+low, 1, api.ToRead, api.ErrFault)
		}
	}
	spans(t, l, 1<<32-1, 1, api.ToRead, api.Piece{In: 1, Id: 8, Off: 4095, N: 1})
	refuses(t, l, 1<<32-1, 2, api.ToRead, api.ErrFault)
}

// There is no first address behind the last one.
func TestSpanLastAddress(t *testing.T) {
	l := []api.Map{{At: 0, Pages: 64, In: 1, Id: 7, Write: true, Run: true}}
	for _, n := range []int{1, 2, 64, 65, 4096} {
		refuses(t, l, last, n, api.ToRead, api.ErrFault)
		refuses(t, l, last-63, n, api.ToWrite, api.ErrFault)
		refuses(t, l, last-4094, n, api.ToRun, api.ErrFault)
	}
}

func TestSpanNeeds(t *testing.T) {
	for _, c := range []struct {
		write, run bool
		allowed    [3]bool
	}{
		{false, false, [3]bool{true, false, false}},
		{true, false, [3]bool{true, true, false}},
		{false, true, [3]bool{true, false, true}},
		{true, true, [3]bool{true, true, true}},
	} {
		l := []api.Map{{At: 1, Pages: 1, In: 3, Id: 4, Write: c.write, Run: c.run}}
		for need, allowed := range c.allowed {
			if allowed {
				spans(t, l, 70, 2, need, api.Piece{In: 3, Id: 4, Off: 6, N: 2})
			} else {
				refuses(t, l, 70, 2, need, api.ErrFault)
			}
		}
	}
}

// All bytes must be there for the need, the last as the first.
func TestSpanNeedsOfEach(t *testing.T) {
	l := []api.Map{{At: 1, Pages: 1, In: 1, Id: 4, Write: true}, {At: 2, Pages: 1, In: 1, Id: 5, Run: true}, {At: 3, Pages: 1, In: 1, Id: 6, Write: true}}
	spans(t, l, 127, 66, api.ToRead, api.Piece{In: 1, Id: 4, Off: 63, N: 1}, api.Piece{In: 1, Id: 5, N: 64}, api.Piece{In: 1, Id: 6, N: 1})
	refuses(t, l, 127, 66, api.ToWrite, api.ErrFault)
	refuses(t, l, 127, 2, api.ToWrite, api.ErrFault)
	refuses(t, l, 191, 2, api.ToWrite, api.ErrFault)
	refuses(t, l, 127, 2, api.ToRun, api.ErrFault)
	refuses(t, l, 191, 2, api.ToRun, api.ErrFault)
	spans(t, l, 128, 64, api.ToRun, api.Piece{In: 1, Id: 5, N: 64})
}

func TestSpanHole(t *testing.T) {
	l := []api.Map{one(1), one(3)}
	refuses(t, l, 64, 65, api.ToRead, api.ErrFault)
	refuses(t, l, 127, 66, api.ToRead, api.ErrFault)
	refuses(t, l, 63, 2, api.ToRead, api.ErrFault)
	refuses(t, l, 255, 2, api.ToRead, api.ErrFault)
	spans(t, l, 64, 64, api.ToRead, api.Piece{In: 1, Id: 101, N: 64})
	spans(t, l, 255, 1, api.ToRead, api.Piece{In: 1, Id: 103, Off: 63, N: 1})
}

// Pages of one mapping make one piece; two mappings make two, even where the bytes of the segment go on.
func TestSpanOnePieceAMapping(t *testing.T) {
	whole := []api.Map{{At: 5, Pages: 64, In: 1, Id: 7}}
	spans(t, whole, 320, 4096, api.ToRead, api.Piece{In: 1, Id: 7, N: 4096})
	spans(t, whole, 383, 66, api.ToRead, api.Piece{In: 1, Id: 7, Off: 63, N: 66})
	halves := []api.Map{{At: 5, Pages: 32, In: 1, Id: 7}, {At: 37, Pages: 32, In: 1, Id: 7, From: 32}}
	spans(t, halves, 320, 4096, api.ToRead, api.Piece{In: 1, Id: 7, N: 2048}, api.Piece{In: 1, Id: 7, Off: 2048, N: 2048})
	spans(t, halves, 320+2047, 2, api.ToRead, api.Piece{In: 1, Id: 7, Off: 2047, N: 1}, api.Piece{In: 1, Id: 7, Off: 2048, N: 1})
}

// Sixteen mappings side by side, each a segment's last page.
func TestSpanManyPieces(t *testing.T) {
	var l []api.Map
	var want []api.Piece
	for i := range 16 {
		l = append(l, api.Map{At: 100 + i, Pages: 1, In: 2, Id: 50 - i, From: 63, Run: true})
		want = append(want, api.Piece{In: 2, Id: 50 - i, Off: 4032, N: 64})
	}
	spans(t, l, 6400, 1024, api.ToRun, want...)
	refuses(t, l, 6400, 1025, api.ToRun, api.ErrFault)
	refuses(t, l, 6399, 1024, api.ToRun, api.ErrFault)
	want[0], want[15] = api.Piece{In: 2, Id: 50, Off: 4095, N: 1}, api.Piece{In: 2, Id: 35, Off: 4032, N: 1}
	spans(t, l, 6463, 898, api.ToRun, want...)
}

func TestFind(t *testing.T) {
	l := put(t, seven, eight)
	for addr := range uint64(400) {
		for need := range 5 {
			got, e := space.Find(l, addr, need-1)
			want, f := span(l, addr, 1, need-1)
			if e != f || !slices.Equal(got, want) {
				t.Errorf("Find(%d, %d) = %v, %d, not %v, %d", addr, need-1, got, e, want, f)
			}
		}
	}
	if got, e := space.Find(l, last, api.ToRead); e != api.ErrFault || len(got) > 0 {
		t.Errorf("Find at the last address = %v, %d", got, e)
	}
}
