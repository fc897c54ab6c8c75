package foreman

import (
	"testing"

	"foreman/api"
)

// These tests stand inside the package: no call moves the time, makes a slot Old, or starts one if Dynamic is
// yes, so they do it by hand.

func staff(t *testing.T, c api.Config, slots ...api.Slot) *Foreman {
	t.Helper()
	f, e := New(c)
	if e != api.OK {
		t.Fatalf("P5: New(%+v) = %d, want OK", c, e)
	}
	for i, s := range slots {
		s.Conn = -1
		f.slots[i].slot = s
	}
	f.Connect(0)
	return f
}

func ask(t *testing.T, f *Foreman, id int) {
	t.Helper()
	for _, r := range []api.Record{{Kind: api.Begin, Id: id, Content: "\x01"}, {Kind: api.In, Id: id}} {
		s, _ := Encode(r)
		if e := f.Feed(0, s); e != api.OK {
			t.Fatalf("P6: Feed = %d, want OK", e)
		}
	}
}

func wantOK(t *testing.T, what string, e api.Errno) {
	t.Helper()
	if e != api.OK {
		t.Fatalf("P8: %s = %d, want OK", what, e)
	}
}

func wantSlots(t *testing.T, what string, f *Foreman, want ...api.Slot) {
	t.Helper()
	for i, w := range want {
		if s, e := f.Slot(i); s != w || e != api.OK {
			t.Fatalf("%s: slot %d is %+v, %d, want %+v", what, i, s, e, w)
		}
	}
}

func TestSpawnedOfAnOldOne(t *testing.T) {
	f := staff(t, api.Config{Children: 2, Backlog: 1}, api.Slot{State: api.Starting, Old: true})
	ask(t, f, 1)
	wantOK(t, "Spawned", f.Spawned(0))
	wantSlots(t, "P8: Spawned of an Old one", f, api.Slot{State: api.Dying, Old: true, Conn: -1}, api.Slot{State: api.Starting, Conn: -1})
	if l := f.Backlog(); len(l) != 1 {
		t.Fatalf("P8: behind Spawned of an Old one Backlog() = %v, want one key", l)
	}
	wantOK(t, "Died", f.Died(0))
	wantSlots(t, "P8: Died of an Old one", f, api.Slot{State: api.Starting, Conn: -1})
	wantOK(t, "Spawned", f.Spawned(0))
	wantSlots(t, "P8: Spawned of a new one", f, api.Slot{State: api.Busy, Served: 1, Conn: 0, Id: 1})
}

func TestFinishedOfAnOldOne(t *testing.T) {
	for _, most := range []int{0, 1, 1000} {
		f := staff(t, api.Config{Children: 1, MaxRequests: most}, api.Slot{State: api.Idle})
		ask(t, f, 1)
		f.slots[0].slot.Old = true
		wantOK(t, "Output", f.Output(0, ""))
		wantSlots(t, "P8: Output of an Old one", f, api.Slot{State: api.Busy, Old: true, Served: 1, Conn: 0, Id: 1})
		wantOK(t, "Finished", f.Finished(0))
		wantSlots(t, "P8: Finished of an Old one", f, api.Slot{State: api.Dying, Old: true, Served: 1, Conn: -1})
		if f.Sent(0) != "\x01\x03\x00\x01\x00\x01\x00\x00\x00" {
			t.Fatalf("P8: Finished of an Old one sent %q, want End with Done", f.Sent(0))
		}
	}
}

// TestServedAroundMaxRequests: also more than MaxRequests, which no worker comes to that is not Old.
func TestServedAroundMaxRequests(t *testing.T) {
	for _, most := range []int{0, 1, 5, 1000} {
		for _, before := range []int{0, 3, 4, 5, 998, 999, 1000, 2000} {
			f := staff(t, api.Config{Children: 1, MaxRequests: most}, api.Slot{State: api.Idle, Served: before})
			ask(t, f, 1)
			wantOK(t, "Finished", f.Finished(0))
			want := api.Slot{State: api.Idle, Served: before + 1, Conn: -1}
			if most > 0 && before+1 >= most {
				want.State = api.Dying
			}
			wantSlots(t, "P8: Finished", f, want)
		}
	}
}

// TestSinceIsTheTimeOfTheLease, and stays when the key is lost, until the slot is Busy no more.
func TestSinceIsTheTimeOfTheLease(t *testing.T) {
	idle := api.Slot{State: api.Idle}
	f := staff(t, api.Config{Children: 4, Backlog: 9}, idle, idle, idle, idle)
	for slot := range 4 {
		f.time = 5 + slot
		ask(t, f, 1+slot)
	}
	f.time = 20
	abort, _ := Encode(api.Record{Kind: api.Abort, Id: 2})
	f.Feed(0, abort)
	wantOK(t, "Finished", f.Finished(2))
	wantOK(t, "Died", f.Died(3))
	wantOK(t, "Output", f.Output(0, "x"))
	wantSlots(t, "P8: behind a lease at the times 5 to 8", f,
		api.Slot{State: api.Busy, Served: 1, Since: 5, Conn: 0, Id: 1},
		api.Slot{State: api.Dying, Served: 1, Conn: -1},
		api.Slot{State: api.Idle, Served: 1, Conn: -1},
		api.Slot{State: api.Starting, Conn: -1})
	f.Hangup(0)
	wantOK(t, "Output", f.Output(0, "x"))
	wantSlots(t, "P5: behind Hangup", f, api.Slot{State: api.Busy, Served: 1, Since: 5, Conn: -1})
	f.Connect(0)
	ask(t, f, 1)
	wantSlots(t, "P8: behind a second lease", f,
		api.Slot{State: api.Busy, Served: 1, Since: 5, Conn: -1},
		api.Slot{State: api.Dying, Served: 1, Conn: -1},
		api.Slot{State: api.Busy, Served: 2, Since: 20, Conn: 0, Id: 1})
	f.time = 21
	ask(t, f, 2)
	wantOK(t, "Finished", f.Finished(2))
	wantSlots(t, "P8: a lease by Finished", f,
		api.Slot{State: api.Busy, Served: 1, Since: 5, Conn: -1},
		api.Slot{State: api.Dying, Served: 1, Conn: -1},
		api.Slot{State: api.Busy, Served: 3, Since: 21, Conn: 0, Id: 2})
}

// TestDiedIfDynamic: none is started in its place, but what waits is leased all the same.
func TestDiedIfDynamic(t *testing.T) {
	c := api.Config{Children: 3, Dynamic: true, MinSpare: 1, MaxSpare: 1, Backlog: 9}
	starting := api.Slot{State: api.Starting}
	f := staff(t, c, starting, starting)
	ask(t, f, 1)
	wantOK(t, "Died", f.Died(0))
	wantOK(t, "Spawned", f.Spawned(1))
	empty := api.Slot{Conn: -1}
	wantSlots(t, "P8: if Dynamic is yes", f, empty, api.Slot{State: api.Busy, Served: 1, Conn: 0, Id: 1}, empty)
	ask(t, f, 2)
	wantOK(t, "Finished", f.Finished(1))
	wantSlots(t, "P8: if Dynamic is yes", f, empty, api.Slot{State: api.Busy, Served: 2, Conn: 0, Id: 2}, empty)
	wantOK(t, "Died", f.Died(1))
	wantSlots(t, "P8: if Dynamic is yes", f, empty, empty, empty)
	if e := f.Died(1); e != api.ErrState {
		t.Fatalf("P8: Died of an Empty one = %d, want ErrState", e)
	}
}

// TestDiedStartsTheFirstEmptyOne, which need not be the one that died, and none if there are Children left.
func TestDiedStartsTheFirstEmptyOne(t *testing.T) {
	idle, dying := api.Slot{State: api.Idle, Served: 3, Conn: -1}, api.Slot{State: api.Dying, Conn: -1}
	empty, starting := api.Slot{Conn: -1}, api.Slot{State: api.Starting, Conn: -1}
	f := staff(t, api.Config{Children: 2}, empty, idle, empty, dying, empty, empty)
	wantOK(t, "Died", f.Died(3))
	wantSlots(t, "P8: behind Died", f, starting, idle, empty, empty, empty, empty)
	f = staff(t, api.Config{Children: 2}, empty, idle, dying, dying, empty, empty)
	wantOK(t, "Died", f.Died(3))
	wantSlots(t, "P8: behind Died", f, empty, idle, dying, empty, empty, empty)
	f = staff(t, api.Config{Children: 4}, empty, idle, empty, dying, empty, empty)
	wantOK(t, "Died", f.Died(3))
	wantSlots(t, "P8: behind Died", f, starting, idle, starting, starting, empty, empty)
}
