package wait_test

import (
	"fmt"
	"slices"
	"testing"

	"gatehouse/api"
	"gatehouse/wait"
)

// TestNobodyIsLost: of the four calls that may answer a thread, in all orders, just the first one does.
func TestNobodyIsLost(t *testing.T) {
	calls := []func(r *wait.Rooms) bool{
		func(r *wait.Rooms) bool { return slices.Contains(r.Wake(9, 8), 5) },
		func(r *wait.Rooms) bool { waited, _ := r.Post(5, 1); return waited },
		func(r *wait.Rooms) bool { return slices.Contains(r.Close(9), 5) },
		func(r *wait.Rooms) bool { return r.Forget(5) },
	}
	for i := range 4 * 4 * 4 * 4 {
		r := wait.New()
		waits(t, r, 4, 9, 8)
		waits(t, r, 5, 9, 8)
		waits(t, r, 6, 9, 8)
		for turn, n := range []int{i % 4, i / 4 % 4, i / 16 % 4, i / 64} {
			if calls[n](r) != (turn == 0) {
				t.Errorf("row %d, call %d", i, turn)
			}
			nowhere(t, r, 5)
		}
	}
}

// TestOthersDontAnswer: calls for other places, segments and threads, and those that are refused, leave it waiting.
func TestOthersDontAnswer(t *testing.T) {
	r := wait.New()
	waits(t, r, 5, 9, 8)
	unchanged(t, r, func() {
		for _, n := range append(wrongNumbers(), 1, 5, 8, 10, lastOff, api.MaxId) {
			these(t, "Wake", r.Wake(n, 8))
			these(t, "Close", r.Close(n))
			if n != 5 && r.Forget(n) {
				t.Error("Forget", n)
			}
			if n != 8 {
				these(t, "Wake", r.Wake(9, n))
			}
		}
		r.Post(5, 256)
		r.Post(5, -1)
		r.Wait(5, 9, 8)
		r.Wait(5, 9, 0)
		r.Take(5)
	})
	posted(t, r, 6, 1, false)
	at(t, r, 5, 9, 8)
	these(t, "Wake(9, 8)", r.Wake(9, 8), 5)
}

// TestNothingInCommon: what is answered of one place is the same, whatever is asked of the others by other threads.
func TestNothingInCommon(t *testing.T) {
	others := [][2]int{{9, 0}, {9, 7}, {9, 9}, {9, lastOff}, {8, 8}, {8, 9}, {1, 8}, {api.MaxId, 8}}
	d := dice(11)
	for range 50 {
		alone, among := wait.New(), wait.New()
		for step := range 200 {
			seed := dice(d.roll(1 << 30))
			if got, want := ofPlace(among, seed), ofPlace(alone, seed); got != want {
				t.Fatalf("step %d: %s, not %s", step, got, want)
			}
			for range d.roll(4) {
				p := pick(&d, others...)
				thread := 101 + d.roll(10)
				switch d.roll(6) {
				default:
					among.Wait(thread, p[0], p[1])
				case 0:
					among.Wake(p[0], p[1])
				case 1:
					if p[0] != 9 {
						among.Close(p[0])
					}
				case 2:
					among.Post(thread, d.roll(256))
					among.Take(thread)
				}
			}
			these(t, "List(9, 8)", among.List(9, 8), alone.List(9, 8)...)
		}
	}
}

// ofPlace does one call for the place (9, 8), by one of its own threads, and tells what was answered. The dice are a copy: whoever has the same ones does the same call.
func ofPlace(r *wait.Rooms, d dice) string {
	thread := 1 + d.roll(10)
	switch d.roll(8) {
	default:
		return fmt.Sprint("Wait ", thread, r.Wait(thread, 9, 8))
	case 0:
		return fmt.Sprint("Wake ", r.Wake(9, 8))
	case 1:
		waited, e := r.Post(thread, 5)
		code, ok := r.Take(thread)
		return fmt.Sprint("Post ", thread, waited, e, code, ok)
	case 2:
		return fmt.Sprint("Forget ", thread, r.Forget(thread))
	}
}

// TestFirstComeFirst: at one place, whoever leaves from the front, the middle or the end, the others stay in order.
func TestFirstComeFirst(t *testing.T) {
	for left := range 1 << 6 {
		r := wait.New()
		var want []int
		for i, thread := range []int{40, 10, 60, 30, 20, 50} {
			waits(t, r, thread, 9, 8)
			waits(t, r, thread+1, 9, 16*i)
			if left>>i&1 == 0 {
				want = append(want, thread)
			}
		}
		for i, thread := range []int{40, 10, 60, 30, 20, 50} {
			if left>>i&1 == 1 && !r.Forget(thread) {
				t.Error("Forget", thread)
			}
		}
		waits(t, r, 70, 9, 8)
		want = append(want, 70)
		these(t, "List(9, 8)", r.List(9, 8), want...)
		these(t, "Wake(9, 8)", r.Wake(9, 8), want...)
		these(t, "Close(9)", r.Close(9), 41, 11, 61, 31, 21, 51)
	}
}

// TestCrowd: a great many at one place and at many, that go one by one from either end, or all at once.
func TestCrowd(t *testing.T) {
	const n = 60000
	r := wait.New()
	for thread := 1; thread <= n; thread++ {
		waits(t, r, thread, 9, 0)
		waits(t, r, n+thread, 10+thread, thread%(lastOff+1))
	}
	c := r.Copy()
	for i := range n / 3 {
		posted(t, r, 1+i, 1, true)
		if !r.Forget(n - i) {
			t.Fatal("Forget", n-i)
		}
	}
	list := r.Close(9)
	if len(list) != n/3 || list[0] != n/3+1 || !slices.IsSorted(list) || r.Len() != n {
		t.Error(len(list), r.Len())
	}
	for thread := 1; thread <= n; thread++ {
		these(t, "Close", c.Close(10+thread), n+thread)
	}
	list = c.Wake(9, 0)
	if len(list) != n || list[0] != 1 || !slices.IsSorted(list) || c.Len() != 0 {
		t.Error(len(list), c.Len())
	}
}
