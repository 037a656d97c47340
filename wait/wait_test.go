package wait_test

import (
	"testing"

	"gatehouse/api"
	"gatehouse/wait"
)

func TestExamples(t *testing.T) {
	r := wait.New()
	waits(t, r, 5, 9, 0)
	waits(t, r, 6, 9, 8)
	waits(t, r, 7, 9, 0)
	these(t, "Wake(9, 0)", r.Wake(9, 0), 5, 7)
	refused(t, r, 6, 9, 0, api.ErrId)
	posted(t, r, 6, 3, true)
	refused(t, r, 6, 9, 0, api.ErrAgain)
	taken(t, r, 6, 3)

	r = wait.New()
	waits(t, r, 5, 9, 0)
	waits(t, r, 6, 9, 8)
	waits(t, r, 7, 8, 0)
	these(t, "Close(9)", r.Close(9), 5, 6)
}

func TestNew(t *testing.T) {
	r := wait.New()
	if r == nil || r.Len() != 0 || state(r) != "0" {
		t.Fatal("somebody waits, or has alerts")
	}
	other := wait.New()
	waits(t, r, 5, 9, 0)
	posted(t, r, 6, 1, false)
	if state(other) != "0" {
		t.Error("two of them have something in common")
	}
}

func TestWaitBounds(t *testing.T) {
	r := some(t)
	for _, n := range wrongNumbers() {
		refused(t, r, n, 9, 0, api.ErrArg)
		refused(t, r, 10, n, 0, api.ErrArg)
		refused(t, r, n, n, n, api.ErrArg)
	}
	for _, off := range wrongOffs() {
		refused(t, r, 10, 9, off, api.ErrArg)
	}
	waits(t, r, api.MaxId, api.MaxId, lastOff)
	at(t, r, api.MaxId, api.MaxId, lastOff)
	refused(t, r, api.MaxId, api.MaxId, lastOff, api.ErrId)
	waits(t, r, 10, 1, 0)
	at(t, r, 10, 1, 0)
	these(t, "Close(MaxId)", r.Close(api.MaxId), api.MaxId)
	these(t, "Close(1)", r.Close(1), 10)

	r = wait.New()
	waits(t, r, 1, 1, 0)
	refused(t, r, 1, 1, 0, api.ErrId)
	these(t, "Wake(1, 0)", r.Wake(1, 0), 1)
}

// TestWaitErrors: wrong numbers ahead of all else, of threads that wait and of those with alerts alike.
func TestWaitErrors(t *testing.T) {
	r := some(t)
	for _, thread := range []int{5, 1} {
		refused(t, r, thread, 0, 0, api.ErrArg)
		refused(t, r, thread, api.MaxId+1, 0, api.ErrArg)
		refused(t, r, thread, 9, -1, api.ErrArg)
		refused(t, r, thread, 9, lastOff+1, api.ErrArg)
	}
	for _, to := range [][2]int{{9, 0}, {9, 8}, {8, 0}, {7, 3}} {
		refused(t, r, 5, to[0], to[1], api.ErrId)
		refused(t, r, 1, to[0], to[1], api.ErrAgain)
	}
	at(t, r, 5, 9, 0)
	nowhere(t, r, 1)
	taken(t, r, 1, 30)
	refused(t, r, 1, 9, 0, api.ErrAgain)
	taken(t, r, 1, 10)
	waits(t, r, 1, 9, 0)
	these(t, "List(9, 0)", r.List(9, 0), 5, 7, 1)
}

// TestWaitBehind: whoever comes anew stands behind all others, also where it stood ahead.
func TestWaitBehind(t *testing.T) {
	r := some(t)
	posted(t, r, 5, 1, true)
	taken(t, r, 5, 1)
	waits(t, r, 5, 9, 0)
	these(t, "List(9, 0)", r.List(9, 0), 7, 5)
	these(t, "Close(9)", r.Close(9), 6, 7, 2, 5)
	for _, thread := range []int{7, 2, 6} {
		waits(t, r, thread, 9, 4)
	}
	these(t, "Wake(9, 4)", r.Wake(9, 4), 7, 2, 6)
}

func TestWake(t *testing.T) {
	r := some(t)
	these(t, "Wake(9, 0)", r.Wake(9, 0), 5, 7)
	nowhere(t, r, 5, 7)
	these(t, "List(9, 0)", r.List(9, 0))
	these(t, "List(9, 8)", r.List(9, 8), 6, 2)
	these(t, "List(8, 0)", r.List(8, 0), 4)
	if r.Len() != 3 {
		t.Error(r.Len())
	}
	unchanged(t, r, func() { these(t, "Wake(9, 0) again", r.Wake(9, 0)) })
	waits(t, r, 7, 9, 0)
	waits(t, r, 5, 9, 0)
	these(t, "Wake(9, 0)", r.Wake(9, 0), 7, 5)
	these(t, "Wake(8, 0)", r.Wake(8, 0), 4)
	these(t, "Wake(9, 8)", r.Wake(9, 8), 6, 2)
	if r.Len() != 0 {
		t.Error(r.Len())
	}
	these(t, "Alerts(1)", r.Alerts(1), 30, 10)
}

// TestWakeNobody: places where nobody waits, or where nobody can.
func TestWakeNobody(t *testing.T) {
	r := some(t)
	unchanged(t, r, func() {
		for _, off := range []int{1, 7, 9, 16, lastOff} {
			these(t, "Wake(9, off)", r.Wake(9, off))
			these(t, "Wake(8, off)", r.Wake(8, off))
		}
		these(t, "Wake(0, 9)", r.Wake(0, 9))
		these(t, "Wake(8, 8)", r.Wake(8, 8))
		for _, off := range wrongOffs() {
			these(t, "Wake(9, off)", r.Wake(9, off))
		}
		for _, n := range wrongNumbers() {
			these(t, "Wake(n, 0)", r.Wake(n, 0))
			these(t, "Wake(n, n)", r.Wake(n, n))
			these(t, "Close(n)", r.Close(n))
		}
		these(t, "Close(7)", r.Close(7))
	})
}

func TestPost(t *testing.T) {
	r := some(t)
	posted(t, r, 6, 0, true)
	nowhere(t, r, 6)
	these(t, "Alerts(6)", r.Alerts(6), 0)
	these(t, "List(9, 8)", r.List(9, 8), 2)
	posted(t, r, 6, 255, false)
	these(t, "Alerts(6)", r.Alerts(6), 0, 255)
	these(t, "Close(9)", r.Close(9), 5, 7, 2)
	posted(t, r, 5, 9, false)
	posted(t, r, 1, 30, false)
	these(t, "Alerts(1)", r.Alerts(1), 30, 10, 30)
	these(t, "Alerts(3)", r.Alerts(3), 20)
	posted(t, r, api.MaxId, 7, false)
	these(t, "Alerts(MaxId)", r.Alerts(api.MaxId), 7)
	at(t, r, 4, 8, 0)
	posted(t, r, 4, 4, true)
	if r.Len() != 0 {
		t.Error(r.Len())
	}
}

func TestPostErrors(t *testing.T) {
	r := some(t)
	for _, code := range wrongCodes() {
		for _, thread := range []int{5, 1, 11} { // one that waits, one with alerts, one that was never heard of
			unposted(t, r, thread, code, api.ErrArg)
		}
	}
	for _, n := range wrongNumbers() {
		unposted(t, r, n, 1, api.ErrArg)
	}
	for i := range api.MaxAlerts {
		posted(t, r, 6, i, i == 0)
	}
	unposted(t, r, 6, 8, api.ErrFull)
	unposted(t, r, 6, 256, api.ErrArg)
	unposted(t, r, 6, -1, api.ErrArg)
	these(t, "Alerts(6)", r.Alerts(6), 0, 1, 2, 3, 4, 5, 6, 7)
	posted(t, r, 5, 1, true)
	taken(t, r, 6, 0)
	posted(t, r, 6, 8, false)
	unposted(t, r, 6, 9, api.ErrFull)
	these(t, "Alerts(6)", r.Alerts(6), 1, 2, 3, 4, 5, 6, 7, 8)
	refused(t, r, 6, 9, 0, api.ErrAgain)
}

func TestTake(t *testing.T) {
	r := some(t)
	taken(t, r, 1, 30)
	these(t, "Alerts(1)", r.Alerts(1), 10)
	posted(t, r, 1, 40, false)
	taken(t, r, 1, 10)
	taken(t, r, 1, 40)
	untaken(t, r, 1)
	taken(t, r, 3, 20)
	untaken(t, r, 3)
	untaken(t, r, 5)
	at(t, r, 5, 9, 0)
	for _, n := range append(wrongNumbers(), 11, api.MaxId) {
		untaken(t, r, n)
	}
	posted(t, r, 1, 0, false)
	taken(t, r, 1, 0)
	waits(t, r, 1, 9, 8)
}

// TestClose: the order is that in which they came, not that of the places or of the numbers.
func TestClose(t *testing.T) {
	r := wait.New()
	for _, w := range [][3]int{{8, 9, 16}, {3, 9, 0}, {7, 8, 16}, {5, 9, 8}, {1, 9, lastOff}, {6, 9, 0}, {4, 9, 16}, {2, 10, 0}} {
		waits(t, r, w[0], w[1], w[2])
	}
	posted(t, r, 11, 1, false)
	these(t, "Close(9)", r.Close(9), 8, 3, 5, 1, 6, 4)
	nowhere(t, r, 8, 3, 5, 1, 6, 4)
	for _, off := range []int{0, 8, 16, lastOff} {
		these(t, "List(9, off)", r.List(9, off))
		these(t, "Wake(9, off)", r.Wake(9, off))
	}
	unchanged(t, r, func() { these(t, "Close(9) again", r.Close(9)) })
	at(t, r, 7, 8, 16)
	at(t, r, 2, 10, 0)
	these(t, "Alerts(11)", r.Alerts(11), 1)
	waits(t, r, 4, 9, 0)
	waits(t, r, 3, 9, 16)
	these(t, "Wake(9, 0)", r.Wake(9, 0), 4)
	these(t, "Close(9)", r.Close(9), 3)
	if r.Len() != 2 {
		t.Error(r.Len())
	}
}

// TestForget: a thread that waits, one with alerts, and one with neither.
func TestForget(t *testing.T) {
	r := some(t)
	if !r.Forget(5) || r.Forget(5) {
		t.Error("whether 5 waited")
	}
	nowhere(t, r, 5)
	these(t, "List(9, 0)", r.List(9, 0), 7)
	if r.Forget(1) {
		t.Error("1 didn't wait")
	}
	these(t, "Alerts(1)", r.Alerts(1))
	untaken(t, r, 1)
	waits(t, r, 1, 9, 0)
	these(t, "Wake(9, 0)", r.Wake(9, 0), 7, 1)
	these(t, "Alerts(3)", r.Alerts(3), 20)
	unchanged(t, r, func() {
		for _, n := range append(wrongNumbers(), 11, 5, 1, api.MaxId) {
			if r.Forget(n) {
				t.Error("Forget", n)
			}
		}
	})
	for range api.MaxAlerts {
		posted(t, r, 10, 1, false)
	}
	r.Forget(10)
	posted(t, r, 10, 2, false)
	these(t, "Alerts(10)", r.Alerts(10), 2)
	if !r.Forget(2) || !r.Forget(6) || !r.Forget(4) || r.Len() != 0 {
		t.Error(r.Len())
	}
	these(t, "Close(9)", r.Close(9))
}

func TestAsk(t *testing.T) {
	r := some(t)
	for thread, to := range map[int][2]int{5: {9, 0}, 7: {9, 0}, 6: {9, 8}, 2: {9, 8}, 4: {8, 0}} {
		at(t, r, thread, to[0], to[1])
		these(t, "Alerts", r.Alerts(thread))
	}
	nowhere(t, r, append(wrongNumbers(), 1, 3, 8, 9, 11, api.MaxId)...)
	these(t, "List(9, 0)", r.List(9, 0), 5, 7)
	these(t, "List(9, 8)", r.List(9, 8), 6, 2)
	these(t, "List(8, 0)", r.List(8, 0), 4)
	for _, off := range append(wrongOffs(), 1, 7, lastOff) {
		these(t, "List(9, off)", r.List(9, off))
	}
	for _, n := range append(wrongNumbers(), 1, 7, api.MaxId) {
		these(t, "List(n, 0)", r.List(n, 0))
		these(t, "List(n, n)", r.List(n, n))
	}
	for _, n := range append(wrongNumbers(), 2, 5, 11, api.MaxId) {
		these(t, "Alerts(n)", r.Alerts(n))
	}
	these(t, "Alerts(1)", r.Alerts(1), 30, 10)
	these(t, "Alerts(3)", r.Alerts(3), 20)
	if r.Len() != 5 {
		t.Error(r.Len())
	}
}

func TestNil(t *testing.T) {
	var r *wait.Rooms
	for _, n := range []int{least, -1, 0, 1, 5, 9, 300, highest} {
		errno(t, "Wait", r.Wait(n, n, n), api.ErrNone)
		if waited, e := r.Post(n, n); waited || e != api.ErrNone {
			t.Error("Post", waited, e)
		}
		if code, ok := r.Take(n); code != 0 || ok || r.Forget(n) {
			t.Error("Take, Forget", code, ok)
		}
		these(t, "Wake", r.Wake(n, n))
		these(t, "Close", r.Close(n))
		these(t, "List", r.List(n, n))
		these(t, "Alerts", r.Alerts(n))
		nowhere(t, r, n)
	}
	if r.Len() != 0 || r.Copy() != nil {
		t.Error("Len, Copy")
	}
}
