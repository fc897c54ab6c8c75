package foreman_test

import (
	"testing"

	"foreman/api"
	"foreman/foreman"
)

// loss: a way in which slot 0, Busy with the key 1 of connection 0, comes to have no key.
type loss struct {
	name string
	do   func(t *testing.T, f *foreman.Foreman)
	slot api.Slot // behind it
	sent string   // over connection 0, by it
	open bool     // whether that connection is so still
}

func losses() []loss {
	feeding := func(s string) func(t *testing.T, f *foreman.Foreman) {
		return func(t *testing.T, f *foreman.Foreman) { feed(t, f, 0, s) }
	}
	list := []loss{
		{"Hangup", func(t *testing.T, f *foreman.Foreman) { hangup(t, f, 0) }, keyless(api.Busy, 1), "", false},
		{"Abort", feeding(abort(1)), keyless(api.Dying, 1), ended(1, api.Aborted), true},
		{"Finished", func(t *testing.T, f *foreman.Foreman) { finished(t, f, 0) }, keyless(api.Idle, 1), ended(1, api.Done), true},
		{"Died", func(t *testing.T, f *foreman.Foreman) { died(t, f, 0) }, plain(api.Starting), ended(1, api.Died), true},
	}
	for _, s := range []string{
		badHeads()[0],
		written(api.Out, 1, "", ""),
		written(api.End, 1, "", ""),
		written(api.Begin, 9, "", ""),
		written(api.Begin, 9, "ab", "")[:8],
		written(api.Abort, 1, "a", "")[:8],
		begin(1),
		written(api.Begin, 1, "\x02", ""),
	} {
		list = append(list, loss{"bytes that are not taken", feeding(s), keyless(api.Busy, 1), "", false})
	}
	return list
}

// atWork: slots 0 to 2 are Busy with the keys 1 of connection 0, 1 of connection 1 and 2 of connection 0.
func atWork(t *testing.T) *foreman.Foreman {
	t.Helper()
	f := staffed(t, api.Config{Children: 3, Backlog: 9}, 0, 1, 2)
	feed(t, f, 0, asked(1, "mine"))
	feed(t, f, 1, asked(1, "theirs"))
	feed(t, f, 0, asked(2, "mine too"))
	output(t, f, 0, "begun")
	return f
}

func TestEachWayToLoseAKey(t *testing.T) {
	for _, way := range losses() {
		f := atWork(t)
		want := viewOf(f)
		way.do(t, f)
		want.slots[0] = way.slot
		if way.slot.State != api.Busy {
			want.jobs[0] = ""
		}
		want.sent[0] += way.sent
		if !way.open {
			want.open[0] = false
			want.slots[2] = keyless(api.Busy, 1)
		}
		checkView(t, "P5 to P8: behind "+way.name, f, want)
	}
}

// TestCallsBehindALoss: nothing is sent any more; a Busy one goes on as any other.
func TestCallsBehindALoss(t *testing.T) {
	for _, way := range losses() {
		for _, event := range events() {
			f := atWork(t)
			way.do(t, f)
			want := viewOf(f)
			may := event.name == "Died" || event.name == "Spawned" && way.slot.State == api.Starting ||
				way.slot.State == api.Busy && event.name != "Spawned"
			if !may {
				checkErrno(t, "P8: "+event.name+" behind "+way.name, event.call(f, 0), api.ErrState)
				checkView(t, "P1: "+event.name+" behind "+way.name, f, want)
				continue
			}
			checkErrno(t, "P8: "+event.name+" behind "+way.name, event.call(f, 0), api.OK)
			switch event.name {
			case "Spawned":
				want.slots[0] = plain(api.Idle)
			case "Finished":
				want.slots[0], want.jobs[0] = keyless(api.Idle, 1), ""
			case "Died":
				want.slots[0], want.jobs[0] = plain(api.Starting), ""
			}
			checkView(t, "P8: "+event.name+" behind "+way.name, f, want)
		}
	}
}

// TestAbortOfOneOfTwoLeased: over one connection, and of the same Id over two.
func TestAbortOfOneOfTwoLeased(t *testing.T) {
	f := atWork(t)
	feed(t, f, 1, abort(1))
	checkSlot(t, f, 0, busy(1, 0, 1))
	checkSlot(t, f, 1, keyless(api.Dying, 1))
	checkSlot(t, f, 2, busy(1, 0, 2))
	feed(t, f, 0, abort(2))
	checkSlot(t, f, 0, busy(1, 0, 1))
	checkSlot(t, f, 2, keyless(api.Dying, 1))
	checkSent(t, f, 0, out(1, "begun"), ended(2, api.Aborted))
	checkSent(t, f, 1, ended(1, api.Aborted))
	// The keys are no more: a second Abort is nothing, and neither slot takes what comes next.
	feed(t, f, 0, abort(2), asked(2, "again"))
	checkSent(t, f, 0, out(1, "begun"), ended(2, api.Aborted))
	checkWaits(t, f, key(0, 2))
}

// begunAgain: slot 0 has lost the key 1 of connection 0, and is Busy still; there is another key 1 now.
func begunAgain(t *testing.T, c api.Config) *foreman.Foreman {
	t.Helper()
	f := staffed(t, c, 0)
	feed(t, f, 0, asked(1, "old"))
	hangup(t, f, 0)
	connect(t, f, 0)
	feed(t, f, 0, begin(1), in(1, "new"))
	checkSlot(t, f, 0, keyless(api.Busy, 1))
	checkJob(t, f, 0, "old")
	return f
}

// TestBegunAgainWhileItCollects: nothing that the slot does is of the new key.
func TestBegunAgainWhileItCollects(t *testing.T) {
	for _, event := range events()[1:] {
		f := begunAgain(t, api.Config{Children: 1, Backlog: 9})
		checkErrno(t, "P8: "+event.name, event.call(f, 0), api.OK)
		checkSent(t, f, 0, "")
		// The new key is still there.
		feed(t, f, 0, in(1, "er"), abort(1))
		checkSent(t, f, 0, ended(1, api.Aborted))
	}
}

func TestBegunAgainWhileItWaits(t *testing.T) {
	f := begunAgain(t, api.Config{Children: 1, Backlog: 9})
	feed(t, f, 0, in(1, ""))
	checkWaits(t, f, key(0, 1))
	checkSlot(t, f, 0, keyless(api.Busy, 1))
	output(t, f, 0, "old answer")
	checkSent(t, f, 0, "")
	checkJob(t, f, 0, "old")
	// The new key is leased to the very slot that had the old one.
	finished(t, f, 0)
	checkSent(t, f, 0, "")
	checkSlot(t, f, 0, busy(2, 0, 1))
	checkJob(t, f, 0, "new")
	output(t, f, 0, "new answer")
	finished(t, f, 0)
	checkSent(t, f, 0, out(1, "new answer"), ended(1, api.Done))
}

func TestBegunAgainAndDied(t *testing.T) {
	f := begunAgain(t, api.Config{Children: 1, Backlog: 9})
	feed(t, f, 0, in(1, ""))
	died(t, f, 0)
	checkSent(t, f, 0, "")
	checkWaits(t, f, key(0, 1))
	spawned(t, f, 0)
	checkSlot(t, f, 0, busy(1, 0, 1))
	checkJob(t, f, 0, "new")
}

// TestBegunAgainAndAborted: an Abort of the new key does not reach the slot that had the old one.
func TestBegunAgainAndAborted(t *testing.T) {
	for _, parts := range []string{abort(1), in(1, "") + abort(1)} {
		f := begunAgain(t, api.Config{Children: 1, Backlog: 9})
		feed(t, f, 0, parts)
		checkSent(t, f, 0, ended(1, api.Aborted))
		checkSlot(t, f, 0, keyless(api.Busy, 1))
		checkJob(t, f, 0, "old")
	}
}

// TestBegunAgainInAnotherSlot: both are Busy, and only one has the key.
func TestBegunAgainInAnotherSlot(t *testing.T) {
	c := api.Config{Children: 2, Backlog: 9}
	both := func() *foreman.Foreman {
		f := begunAgain(t, c)
		feed(t, f, 0, in(1, ""))
		spawned(t, f, 1)
		checkSlot(t, f, 0, keyless(api.Busy, 1))
		checkSlot(t, f, 1, busy(1, 0, 1))
		return f
	}
	f := both()
	output(t, f, 0, "old answer")
	output(t, f, 1, "new answer")
	finished(t, f, 0)
	checkSent(t, f, 0, out(1, "new answer"))
	checkSlot(t, f, 1, busy(1, 0, 1))
	finished(t, f, 1)
	checkSent(t, f, 0, out(1, "new answer"), ended(1, api.Done))
	f = both()
	feed(t, f, 0, abort(1))
	checkSlot(t, f, 0, keyless(api.Busy, 1))
	checkSlot(t, f, 1, keyless(api.Dying, 1))
	checkJob(t, f, 0, "old")
	f = both()
	hangup(t, f, 0)
	checkSlot(t, f, 0, keyless(api.Busy, 1))
	checkSlot(t, f, 1, keyless(api.Busy, 1))
	checkJob(t, f, 1, "new")
	f = both()
	died(t, f, 1)
	checkSent(t, f, 0, ended(1, api.Died))
	checkSlot(t, f, 0, keyless(api.Busy, 1))
}

// TestEverySlotWithoutAKey: hung up over and over, one Id takes all the slots, and all come back.
func TestEverySlotWithoutAKey(t *testing.T) {
	f := staffed(t, api.Config{Children: 6}, 0, 1, 2, 3, 4, 5)
	for slot := range api.MaxSlots {
		feed(t, f, 0, asked(1, string(rune('a'+slot))))
		hangup(t, f, 0)
		connect(t, f, 0)
	}
	feed(t, f, 0, asked(1, "no room"))
	checkSent(t, f, 0, ended(1, api.Overloaded))
	for slot := range api.MaxSlots {
		checkSlot(t, f, slot, keyless(api.Busy, 1))
		checkJob(t, f, slot, string(rune('a'+slot)))
		output(t, f, slot, "x")
		finished(t, f, slot)
		checkSlot(t, f, slot, keyless(api.Idle, 1))
	}
	checkSent(t, f, 0, ended(1, api.Overloaded))
}
