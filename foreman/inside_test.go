package foreman

import (
	"testing"

	"foreman/api"
)

// These tests stand inside the package: no calls lead to what they set by hand.

// idleOne: a foreman whose slot 0 is Idle, and has served so many.
func idleOne(t *testing.T, c api.Config, served int) *Foreman {
	t.Helper()
	f, e := New(c)
	if e != api.OK {
		t.Fatalf("P5: New(%+v) = %d, want OK", c, e)
	}
	f.slots[0].slot = api.Slot{State: api.Idle, Served: served, Conn: -1}
	f.Connect(0)
	return f
}

func ask(t *testing.T, f *Foreman) {
	t.Helper()
	for _, r := range []api.Record{{Kind: api.Begin, Id: 1, Content: "\x01"}, {Kind: api.In, Id: 1}} {
		s, _ := Encode(r)
		if e := f.Feed(0, s); e != api.OK {
			t.Fatalf("P6: Feed = %d, want OK", e)
		}
	}
}

func wantSlot(t *testing.T, what string, f *Foreman, want api.Slot) {
	t.Helper()
	if s, e := f.Slot(0); s != want || e != api.OK {
		t.Fatalf("%s: slot 0 is %+v, %d, want %+v", what, s, e, want)
	}
}

// TestServedAboveMaxRequests: a worker that is not Old is killed as soon as it has served as many, so none serves more.
func TestServedAboveMaxRequests(t *testing.T) {
	for _, before := range []int{3, 4, 5, 6, 1000, 2000} {
		f := idleOne(t, api.Config{Children: 1, MaxRequests: 5}, before)
		ask(t, f)
		if e := f.Finished(0); e != api.OK {
			t.Fatalf("P8: Finished = %d, want OK", e)
		}
		want := api.Slot{State: api.Dying, Served: before + 1, Conn: -1}
		if before+1 < 5 {
			want.State = api.Idle
		}
		wantSlot(t, "P8: Finished", f, want)
	}
}

// TestTickSettles: all other calls settle too, so a Tick never finds an Idle slot while a key waits, nor, if Dynamic is
// no, too few slots that are not Empty.
func TestTickSettles(t *testing.T) {
	for _, dynamic := range []bool{false, true} {
		f := idleOne(t, api.Config{Children: 1, Dynamic: dynamic, MinSpare: 1, MaxSpare: 1, Backlog: 1}, 3)
		f.slots[0].slot.State = api.Starting
		ask(t, f)
		f.slots[0].slot.State = api.Idle
		f.Tick()
		wantSlot(t, "P9: Tick", f, api.Slot{State: api.Busy, Served: 4, Since: 1, Conn: 0, Id: 1})
		f.slots[0] = newPlace(api.Empty)
		f.Tick()
		wantSlot(t, "P9: Tick", f, api.Slot{State: api.Starting, Conn: -1})
	}
}

// TestTickSettlesAtTheEnd: the spare ones are seen to first, so the last Idle one is killed, and then the first one leased.
func TestTickSettlesAtTheEnd(t *testing.T) {
	f := idleOne(t, api.Config{Children: 2, Dynamic: true, MinSpare: 1, MaxSpare: 1, Backlog: 1}, 0)
	f.slots[0].slot.State = api.Starting
	ask(t, f)
	f.slots[0].slot.State = api.Idle
	f.slots[1].slot.State = api.Idle
	f.Tick()
	wantSlot(t, "P9: Tick", f, api.Slot{State: api.Busy, Served: 1, Since: 1, Conn: 0, Id: 1})
	if s, _ := f.Slot(1); s.State != api.Dying {
		t.Fatalf("P9: slot 1 is %+v, want it Dying", s)
	}
}
