package foreman

import (
	"testing"

	"foreman/api"
)

// These tests stand inside the package, since no call makes a slot Idle yet: idle does it by hand.

func idle(t *testing.T, c api.Config, slots ...int) *Foreman {
	t.Helper()
	f, e := New(c)
	if e != api.OK {
		t.Fatalf("P5: New(%+v) = %d, want OK", c, e)
	}
	for _, slot := range slots {
		f.slots[slot].slot.State = api.Idle
	}
	f.Connect(0)
	f.Connect(1)
	return f
}

func bytesOf(t *testing.T, kind, id int, content string) string {
	t.Helper()
	s, e := Encode(api.Record{Kind: kind, Id: id, Content: content})
	if e != api.OK {
		t.Fatalf("P3: Encode: %d", e)
	}
	return s
}

func ask(t *testing.T, f *Foreman, conn, id int, body string) {
	t.Helper()
	f.Feed(conn, bytesOf(t, api.Begin, id, "\x01")+bytesOf(t, api.In, id, body)+bytesOf(t, api.In, id, ""))
}

func wantSlot(t *testing.T, f *Foreman, slot int, want api.Slot) {
	t.Helper()
	if s, e := f.Slot(slot); s != want || e != api.OK {
		t.Fatalf("slot %d is %+v, %d, want %+v", slot, s, e, want)
	}
}

func wantJob(t *testing.T, f *Foreman, slot int, want string, err api.Errno) {
	t.Helper()
	if s, e := f.Job(slot); s != want || e != err {
		t.Fatalf("P11: Job(%d) = %q, %d, want %q, %d", slot, s, e, want, err)
	}
}

func wantWaiting(t *testing.T, f *Foreman, want int) {
	t.Helper()
	if l := f.Backlog(); len(l) != want {
		t.Fatalf("P11: Backlog() = %v, want %d keys", l, want)
	}
}

func TestLeaseToTheFirstIdle(t *testing.T) {
	f := idle(t, api.Config{Children: 4}, 1, 3)
	f.time = 5
	ask(t, f, 0, 9, "hi")
	wantSlot(t, f, 1, api.Slot{State: api.Busy, Served: 1, Since: 5, Conn: 0, Id: 9})
	wantJob(t, f, 1, "hi", api.OK)
	wantSlot(t, f, 3, api.Slot{State: api.Idle, Conn: -1})
	wantJob(t, f, 3, "", api.ErrState)
	f.time = 6
	f.slots[3].slot.Served = 7
	ask(t, f, 1, 9, "ho")
	wantSlot(t, f, 3, api.Slot{State: api.Busy, Served: 8, Since: 6, Conn: 1, Id: 9})
	wantJob(t, f, 3, "ho", api.OK)
	wantJob(t, f, 1, "hi", api.OK)
	wantWaiting(t, f, 0)
	// No slot is Idle now, and Backlog is 0.
	ask(t, f, 1, 10, "too many")
	if want := bytesOf(t, api.End, 10, "\x02"); f.Sent(1) != want {
		t.Fatalf("P7: Sent(1) = %q, want %q", f.Sent(1), want)
	}
	wantSlot(t, f, 0, api.Slot{State: api.Starting, Conn: -1})
}

func TestLeaseTheFirstThatWaits(t *testing.T) {
	f := idle(t, api.Config{Children: 3, Backlog: 9})
	for id := 1; id <= 4; id++ {
		ask(t, f, 0, id, string([]byte{'a' + byte(id)}))
	}
	wantWaiting(t, f, 4)
	f.slots[0].slot.State = api.Idle
	f.slots[2].slot.State = api.Idle
	f.settle()
	wantWaiting(t, f, 2)
	wantSlot(t, f, 0, api.Slot{State: api.Busy, Served: 1, Conn: 0, Id: 1})
	wantJob(t, f, 0, "b", api.OK)
	wantSlot(t, f, 2, api.Slot{State: api.Busy, Served: 1, Conn: 0, Id: 2})
	wantJob(t, f, 2, "c", api.OK)
	if l := f.Backlog(); l[0] != (api.Key{Conn: 0, Id: 3}) || l[1] != (api.Key{Conn: 0, Id: 4}) {
		t.Fatalf("P11: Backlog() = %v, want 3 and 4", l)
	}
}

func TestBodyInTheOrderItCame(t *testing.T) {
	f := idle(t, api.Config{Children: 2}, 0, 1)
	f.Feed(0, bytesOf(t, api.Begin, 1, "\x01")+bytesOf(t, api.Begin, 2, "\x01"))
	for _, part := range []string{"a", "\x00\xff", "bc", "a"} {
		f.Feed(0, bytesOf(t, api.In, 1, part)+bytesOf(t, api.In, 2, part+"!"))
	}
	f.Feed(0, bytesOf(t, api.In, 2, "")+bytesOf(t, api.In, 1, ""))
	wantJob(t, f, 0, "a!\x00\xff!bc!a!", api.OK)
	wantJob(t, f, 1, "a\x00\xffbca", api.OK)
	f = idle(t, api.Config{Children: 1}, 0)
	f.Feed(0, bytesOf(t, api.Begin, 1, "\x01")+bytesOf(t, api.In, 1, ""))
	wantJob(t, f, 0, "", api.OK)
}

// TestLeasedKeyCollectsNoMore: In is nothing to it, it still counts, and its Id may not be begun again.
func TestLeasedKeyCollectsNoMore(t *testing.T) {
	f := idle(t, api.Config{Children: 1, Backlog: 9}, 0)
	ask(t, f, 0, 1, "body")
	f.Feed(0, bytesOf(t, api.In, 1, "more")+bytesOf(t, api.In, 1, ""))
	wantJob(t, f, 0, "body", api.OK)
	wantWaiting(t, f, 0)
	for id := 2; id <= 5; id++ {
		f.Feed(0, bytesOf(t, api.Begin, id, "\x01"))
	}
	if want := bytesOf(t, api.End, 5, "\x02"); f.Sent(0) != want {
		t.Fatalf("P7: Sent(0) = %q, want %q", f.Sent(0), want)
	}
	f.Feed(0, bytesOf(t, api.Begin, 1, "\x01"))
	if f.Open(0) {
		t.Fatal("P6: a Begin of an Id that is a key did not close the connection")
	}
}

func TestAbortKillsTheSlot(t *testing.T) {
	f := idle(t, api.Config{Children: 2, Backlog: 9}, 0, 1)
	f.slots[1].slot.Old = true
	f.slots[1].slot.Served = 3
	f.time = 4
	ask(t, f, 0, 1, "first")
	ask(t, f, 1, 1, "second")
	f.Feed(1, bytesOf(t, api.Abort, 1, ""))
	wantSlot(t, f, 1, api.Slot{State: api.Dying, Old: true, Served: 4, Conn: -1})
	wantJob(t, f, 1, "", api.ErrState)
	wantSlot(t, f, 0, api.Slot{State: api.Busy, Served: 1, Since: 4, Conn: 0, Id: 1})
	if want := bytesOf(t, api.End, 1, "\x05"); f.Sent(1) != want || f.Sent(0) != "" {
		t.Fatalf("P7: Sent = %q, %q, want %q over 1 alone", f.Sent(0), f.Sent(1), want)
	}
	// The key is no more: its Id is free, and a second Abort is nothing.
	f.Feed(1, bytesOf(t, api.Abort, 1, ""))
	ask(t, f, 1, 1, "third")
	wantWaiting(t, f, 1)
	wantSlot(t, f, 1, api.Slot{State: api.Dying, Old: true, Served: 4, Conn: -1})
}

func TestAbortOfOneOfTwoLeased(t *testing.T) {
	f := idle(t, api.Config{Children: 2}, 0, 1)
	ask(t, f, 0, 1, "first")
	ask(t, f, 0, 2, "second")
	f.Feed(0, bytesOf(t, api.Abort, 2, ""))
	wantSlot(t, f, 0, api.Slot{State: api.Busy, Served: 1, Conn: 0, Id: 1})
	wantSlot(t, f, 1, api.Slot{State: api.Dying, Served: 1, Conn: -1})
}

// TestClosedWhileLeased: by Hangup, and by what is not taken. The slot stays Busy at what it has.
func TestClosedWhileLeased(t *testing.T) {
	for _, hangup := range []bool{true, false} {
		f := idle(t, api.Config{Children: 3, Backlog: 9}, 0, 1, 2)
		f.time = 2
		ask(t, f, 0, 1, "mine")
		ask(t, f, 1, 1, "theirs")
		ask(t, f, 0, 2, "mine too")
		if hangup {
			f.Hangup(0)
		} else {
			f.Feed(0, bytesOf(t, api.Out, 1, ""))
		}
		for _, slot := range []int{0, 2} {
			wantSlot(t, f, slot, api.Slot{State: api.Busy, Served: 1, Since: 2, Conn: -1})
		}
		wantSlot(t, f, 1, api.Slot{State: api.Busy, Served: 1, Since: 2, Conn: 1, Id: 1})
		wantJob(t, f, 0, "mine", api.OK)
		wantJob(t, f, 1, "theirs", api.OK)
		wantJob(t, f, 2, "mine too", api.OK)
		// The same Id once more is another key.
		f.Connect(0)
		ask(t, f, 0, 1, "another")
		f.Feed(0, bytesOf(t, api.Abort, 1, ""))
		wantSlot(t, f, 0, api.Slot{State: api.Busy, Served: 1, Since: 2, Conn: -1})
		wantJob(t, f, 0, "mine", api.OK)
	}
}

// TestSettleStartsWhatIsMissing: the first Empty slots, up to Children, and none if Dynamic is yes.
func TestSettleStartsWhatIsMissing(t *testing.T) {
	for _, dynamic := range []bool{false, true} {
		f := idle(t, api.Config{Children: 3, Dynamic: dynamic, MinSpare: 1, MaxSpare: 1})
		for slot := range f.slots {
			f.slots[slot] = newPlace(api.Empty)
		}
		f.slots[1].slot.State = api.Dying
		f.Feed(0, bytesOf(t, api.In, 1, ""))
		missing := api.Starting
		if dynamic {
			missing = api.Empty
		}
		for slot, state := range []int{missing, api.Dying, missing, api.Empty, api.Empty, api.Empty} {
			wantSlot(t, f, slot, api.Slot{State: state, Conn: -1})
		}
	}
}
