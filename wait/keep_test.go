package wait

import "testing"

// TestNothingIsKept: of who waits no more, and of alerts that were taken, nothing stays behind.
func TestNothingIsKept(t *testing.T) {
	r := New()
	for n := 1; n <= 100; n++ {
		r.Wait(n, n%7+1, n%11)
		r.Post(200+n, n)
	}
	for n := 1; n <= 30; n++ {
		r.Forget(n)
		r.Forget(200 + n)
		r.Post(30+n, n)
		r.Take(30 + n)
		r.Take(230 + n)
	}
	for off := range 11 {
		r.Wake(3, off)
	}
	for n := range 101 {
		r.Close(n)
		r.Take(200 + n)
	}
	for _, x := range []*Rooms{r, r.Copy()} {
		if len(x.waiters)+len(x.places)+len(x.segments)+len(x.alerts) > 0 {
			t.Error(len(x.waiters), len(x.places), len(x.segments), len(x.alerts))
		}
	}
}
