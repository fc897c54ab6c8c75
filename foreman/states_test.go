package foreman_test

import (
	"math"
	"testing"

	"foreman/api"
	"foreman/foreman"
)

var noSlots = []int{math.MinInt, -1 << 32, -6, -1, api.MaxSlots, api.MaxSlots + 1, 1 << 32, math.MaxInt}

func everyState(t *testing.T) *foreman.Foreman {
	t.Helper()
	return everyStateOf(t, api.Config{Children: 5, Backlog: 9})
}

// everyStateOf: one slot in each state, Busy twice. Connection 1 is closed, the others are open.
func everyStateOf(t *testing.T, c api.Config) *foreman.Foreman {
	t.Helper()
	f := connected(t, c)
	spawned(t, f, 2)
	feed(t, f, 0, asked(1, "mine"))
	spawned(t, f, 3)
	feed(t, f, 1, asked(1, "lost"))
	hangup(t, f, 1)
	spawned(t, f, 4)
	feed(t, f, 2, asked(1, "aborted"), abort(1))
	spawned(t, f, 1)
	for slot, want := range []api.Slot{
		plain(api.Starting),
		plain(api.Idle),
		busy(1, 0, 1),
		keyless(api.Busy, 1),
		keyless(api.Dying, 1),
		plain(api.Empty),
	} {
		checkSlot(t, f, slot, want)
	}
	return f
}

// event: one of the calls by which workers come in, and what it makes of the slots of everyState: their states
// behind it, or the error; and what it sends over connection 0 of a slot that has the key 1 there.
type event struct {
	name string
	call func(f *foreman.Foreman, slot int) api.Errno
	want [api.MaxSlots]any
	sent string
}

func events() []event {
	const e = api.ErrState
	return []event{
		{
			"Spawned",
			func(f *foreman.Foreman, slot int) api.Errno { return f.Spawned(slot) },
			[api.MaxSlots]any{plain(api.Idle), e, e, e, e, e},
			"",
		}, {
			"Output",
			func(f *foreman.Foreman, slot int) api.Errno { return f.Output(slot, "yes") },
			[api.MaxSlots]any{e, e, busy(1, 0, 1), keyless(api.Busy, 1), e, e},
			out(1, "yes"),
		}, {
			"Output of nothing",
			func(f *foreman.Foreman, slot int) api.Errno { return f.Output(slot, "") },
			[api.MaxSlots]any{e, e, busy(1, 0, 1), keyless(api.Busy, 1), e, e},
			"",
		}, {
			"Finished",
			func(f *foreman.Foreman, slot int) api.Errno { return f.Finished(slot) },
			[api.MaxSlots]any{e, e, keyless(api.Idle, 1), keyless(api.Idle, 1), e, e},
			ended(1, api.Done),
		}, {
			// What becomes Empty is the first to be started anew.
			"Died",
			func(f *foreman.Foreman, slot int) api.Errno { return f.Died(slot) },
			[api.MaxSlots]any{plain(api.Starting), plain(api.Starting), plain(api.Starting), plain(api.Starting), plain(api.Starting), e},
			ended(1, api.Died),
		},
	}
}

func TestEachCallAtEachState(t *testing.T) {
	for _, event := range events() {
		for slot := range api.MaxSlots {
			f := everyState(t)
			want := viewOf(f)
			err := event.call(f, slot)
			if e, isError := event.want[slot].(api.Errno); isError {
				checkErrno(t, "P8: "+event.name, err, e)
				checkView(t, "P1: behind an error of "+event.name, f, want)
				continue
			}
			checkErrno(t, "P8: "+event.name, err, api.OK)
			want.slots[slot] = event.want[slot].(api.Slot)
			if want.slots[slot].State != api.Busy {
				want.jobs[slot] = ""
			}
			if slot == 2 {
				want.sent[0] += event.sent
			}
			checkView(t, "P8: behind "+event.name, f, want)
		}
	}
}

func TestNoSuchSlot(t *testing.T) {
	fresh := newForeman(t, api.Config{Children: api.MaxSlots})
	for _, f := range []*foreman.Foreman{everyState(t), fresh} {
		before := viewOf(f)
		for _, event := range events() {
			for _, slot := range noSlots {
				checkErrno(t, "P8: "+event.name, event.call(f, slot), api.ErrSlot)
				checkView(t, "P1: behind an error of "+event.name, f, before)
			}
		}
	}
}

// TestErrorsOfWorkersChangeNothing lays every wrong call between the right ones, at each step of a worker's life.
func TestErrorsOfWorkersChangeNothing(t *testing.T) {
	f := connected(t, api.Config{Children: 1, MaxRequests: 2, Backlog: 1})
	right := []struct {
		name string
		do   func()
		may  []string // what may be called behind it
	}{
		{"New", func() {}, []string{"Spawned", "Died"}},
		{"Spawned", func() { spawned(t, f, 0) }, []string{"Died"}},
		{"Feed", func() { feed(t, f, 0, asked(1, "a"), asked(2, "b")) }, []string{"Output", "Finished", "Died"}},
		{"Finished", func() { finished(t, f, 0) }, []string{"Output", "Finished", "Died"}},
		{"Hangup", func() { hangup(t, f, 0) }, []string{"Output", "Finished", "Died"}},
		{"Finished", func() { finished(t, f, 0) }, []string{"Died"}},
		{"Died", func() { died(t, f, 0) }, []string{"Spawned", "Died"}},
	}
	for _, step := range right {
		step.do()
		before := viewOf(f)
		for _, event := range events() {
			for slot := range api.MaxSlots {
				if slot == 0 && may(step.may, event.name) {
					continue
				}
				checkErrno(t, "P8: "+event.name+" behind "+step.name, event.call(f, slot), api.ErrState)
				checkView(t, "P1: behind an error of "+event.name, f, before)
			}
		}
	}
}

func may(names []string, name string) bool {
	for _, n := range names {
		if n == name || n+" of nothing" == name {
			return true
		}
	}
	return false
}

// TestLifeOfEachSlot: the first and the last one among them. What one does is nothing to the others.
func TestLifeOfEachSlot(t *testing.T) {
	f := connected(t, api.Config{Children: api.MaxSlots, Backlog: 9})
	for slot := range api.MaxSlots {
		before := viewOf(f)
		conn, id := slot%api.MaxConns, 100+slot
		spawned(t, f, slot)
		checkSlot(t, f, slot, plain(api.Idle))
		checkNoJob(t, f, slot)
		feed(t, f, conn, asked(id, "first"))
		checkSlot(t, f, slot, busy(1, conn, id))
		checkJob(t, f, slot, "first")
		output(t, f, slot, "answer")
		checkSlot(t, f, slot, busy(1, conn, id))
		finished(t, f, slot)
		checkSlot(t, f, slot, keyless(api.Idle, 1))
		checkNoJob(t, f, slot)
		feed(t, f, conn, asked(id, "second"))
		checkSlot(t, f, slot, busy(2, conn, id))
		checkJob(t, f, slot, "second")
		died(t, f, slot)
		checkSlot(t, f, slot, plain(api.Starting))
		checkNoJob(t, f, slot)
		before.sent[conn] += out(id, "answer") + ended(id, api.Done) + ended(id, api.Died)
		checkView(t, "P8: behind one life", f, before)
	}
}
