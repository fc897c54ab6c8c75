package foreman_test

import (
	"testing"

	"foreman/api"
)

// TestLateAtEachTimeout: one Tick before it nothing comes about, at it the key ends, and behind it nothing more.
func TestLateAtEachTimeout(t *testing.T) {
	for _, timeout := range []int{1, 2, 3, 7, api.MaxCount - 1, api.MaxCount} {
		for _, start := range []int{0, 1, 5, 1500} {
			f := staffed(t, api.Config{Children: 1, Timeout: timeout}, 0)
			ticks(f, start)
			feed(t, f, 0, asked(1, "x"))
			checkSlot(t, f, 0, since(start, busy(1, 0, 1)))
			want := viewOf(f)
			ticks(f, timeout-1)
			want.time = start + timeout - 1
			checkView(t, "P9: a lease younger than Timeout", f, want)
			f.Tick()
			want.time++
			want.slots[0], want.jobs[0] = keyless(api.Dying, 1), ""
			want.sent[0] = ended(1, api.Late)
			checkView(t, "P9: a lease as old as Timeout", f, want)
			ticks(f, 3)
			want.time += 3
			checkView(t, "P9: behind a lease that was late", f, want)
		}
	}
}

func TestNeverLateWithoutATimeout(t *testing.T) {
	f := staffed(t, api.Config{Children: 2}, 0, 1)
	feed(t, f, 0, asked(1, "x"))
	feed(t, f, 1, asked(1, "y"))
	hangup(t, f, 1)
	want := viewOf(f)
	for range 3*api.MaxCount + 1 {
		f.Tick()
		want.time++
		checkView(t, "P9: Timeout 0", f, want)
	}
}

// TestTickLeavesTheOthers: whatever is not Busy is never late.
func TestTickLeavesTheOthers(t *testing.T) {
	f := everyStateOf(t, api.Config{Children: 5, Timeout: 1, Backlog: 9})
	want := viewOf(f)
	f.Tick()
	want.time = 1
	want.slots[2], want.jobs[2] = keyless(api.Dying, 1), ""
	want.slots[3], want.jobs[3] = keyless(api.Dying, 1), ""
	want.sent[0] += ended(1, api.Late)
	checkView(t, "P9: Tick with a slot in each state", f, want)
	ticks(f, 5)
	want.time = 6
	checkView(t, "P9: Tick with a slot in each state but Busy", f, want)
}

// TestLateAtOneTick: they end in the order of the slots, not in that of their leases or Ids.
func TestLateAtOneTick(t *testing.T) {
	f := connected(t, api.Config{Children: 6, Timeout: 2})
	for _, lease := range []struct{ slot, conn, id int }{{5, 0, 2}, {3, 0, 9}, {4, 1, 1}, {0, 0, 5}, {1, 3, 5}, {2, 1, 7}} {
		spawned(t, f, lease.slot)
		feed(t, f, lease.conn, asked(lease.id, "x"))
		checkSlot(t, f, lease.slot, busy(1, lease.conn, lease.id))
	}
	hangup(t, f, 3)
	f.Tick()
	checkShape(t, f, "BBBBBB")
	f.Tick()
	for slot := range api.MaxSlots {
		checkSlot(t, f, slot, keyless(api.Dying, 1))
	}
	checkSent(t, f, 0, ended(5, api.Late), ended(9, api.Late), ended(2, api.Late))
	checkSent(t, f, 1, ended(7, api.Late), ended(1, api.Late))
	checkSent(t, f, 2, "")
	checkSent(t, f, 3, "")
}

// TestLateByItsOwnLease: each at the Tick that is its own, though they stand side by side.
func TestLateByItsOwnLease(t *testing.T) {
	f := staffed(t, api.Config{Children: 4, Timeout: 5}, 0, 1, 2, 3)
	for time := range 4 {
		feed(t, f, 0, asked(10+time, "x"))
		checkSlot(t, f, time, since(time, busy(1, 0, 10+time)))
		f.Tick()
	}
	want := ""
	for slot, shape := range []string{"DBBB..", "DDBB..", "DDDB..", "DDDD.."} {
		f.Tick()
		checkTime(t, f, slot+5)
		checkShape(t, f, shape)
		want += ended(10+slot, api.Late)
		checkSent(t, f, 0, want)
	}
}

// TestLateIsCountedFromTheLastLease, not from when the worker started, or the key began to wait.
func TestLateIsCountedFromTheLastLease(t *testing.T) {
	f := staffed(t, api.Config{Children: 1, Timeout: 3, Backlog: 9}, 0)
	ticks(f, 10)
	feed(t, f, 0, asked(1, "a"), asked(2, "b"))
	ticks(f, 2)
	finished(t, f, 0)
	checkSlot(t, f, 0, since(12, busy(2, 0, 2)))
	ticks(f, 2)
	checkSlot(t, f, 0, since(12, busy(2, 0, 2)))
	checkSent(t, f, 0, ended(1, api.Done))
	f.Tick()
	checkSlot(t, f, 0, keyless(api.Dying, 2))
	checkSent(t, f, 0, ended(1, api.Done), ended(2, api.Late))
}

// TestOutputDoesNotHelp: a worker that puts something out is late all the same.
func TestOutputDoesNotHelp(t *testing.T) {
	f := staffed(t, api.Config{Children: 1, Timeout: 2}, 0)
	feed(t, f, 0, asked(1, "a"))
	f.Tick()
	output(t, f, 0, "half")
	f.Tick()
	checkSlot(t, f, 0, keyless(api.Dying, 1))
	checkSent(t, f, 0, out(1, "half"), ended(1, api.Late))
}

// TestLateWithoutAKey: the slot is killed, and a key that has the Id anew is left alone.
func TestLateWithoutAKey(t *testing.T) {
	f := begunAgain(t, api.Config{Children: 1, Timeout: 3, Backlog: 9})
	ticks(f, 2)
	checkSlot(t, f, 0, keyless(api.Busy, 1))
	checkJob(t, f, 0, "old")
	f.Tick()
	checkSlot(t, f, 0, keyless(api.Dying, 1))
	checkNoJob(t, f, 0)
	checkSent(t, f, 0, "")
	feed(t, f, 0, in(1, "er"), in(1, ""))
	checkWaits(t, f, key(0, 1))
	died(t, f, 0)
	spawned(t, f, 0)
	checkSlot(t, f, 0, since(3, busy(1, 0, 1)))
	checkJob(t, f, 0, "newer")
}

// TestLateKeyIsNoMore: its Id is free, what comes of it is nothing, and the connection's other keys go on.
func TestLateKeyIsNoMore(t *testing.T) {
	f := staffed(t, api.Config{Children: 2, Timeout: 2, Backlog: 1}, 0, 1)
	feed(t, f, 0, asked(1, "a"), begin(4))
	f.Tick()
	feed(t, f, 0, asked(2, "b"), asked(3, "c"), in(4, "d"))
	f.Tick()
	checkSent(t, f, 0, ended(1, api.Late))
	checkSlot(t, f, 1, since(1, busy(1, 0, 2)))
	checkWaits(t, f, key(0, 3))
	feed(t, f, 0, abort(1), in(1, "x"), in(1, ""))
	checkSent(t, f, 0, ended(1, api.Late))
	feed(t, f, 0, begin(1), begin(5))
	checkSent(t, f, 0, ended(1, api.Late), ended(5, api.Overloaded))
	checkOpen(t, f, 0, true)
	finished(t, f, 1)
	checkSlot(t, f, 1, since(2, busy(2, 0, 3)))
	feed(t, f, 0, in(4, "e"), in(4, ""))
	checkWaits(t, f, key(0, 4))
}

// TestLateSlotTakesNoMore: till it Died and another has started, what waits goes on waiting.
func TestLateSlotTakesNoMore(t *testing.T) {
	f := staffed(t, api.Config{Children: 1, Timeout: 1, Backlog: 1}, 0)
	feed(t, f, 0, asked(1, "a"), asked(2, "b"))
	f.Tick()
	before := viewOf(f)
	for _, event := range events() {
		if event.name != "Died" {
			checkErrno(t, "P8: "+event.name+" of a late one", event.call(f, 0), api.ErrState)
			checkView(t, "P1: "+event.name+" of a late one", f, before)
		}
	}
	checkWaits(t, f, key(0, 2))
	feed(t, f, 0, asked(3, "c"))
	checkSent(t, f, 0, ended(1, api.Late), ended(3, api.Overloaded))
	ticks(f, 4)
	died(t, f, 0)
	checkSlot(t, f, 0, plain(api.Starting))
	checkSent(t, f, 0, ended(1, api.Late), ended(3, api.Overloaded))
	f.Tick()
	spawned(t, f, 0)
	checkSlot(t, f, 0, since(6, busy(1, 0, 2)))
	checkJob(t, f, 0, "b")
}

// TestOlderThanTimeout: only by another Timeout can a lease come to be older, and then the next Tick sees it.
func TestOlderThanTimeout(t *testing.T) {
	for _, before := range []int{0, 6, 100, api.MaxCount} {
		for _, timeout := range []int{1, 2, 5, 6, 7} {
			f := staffed(t, api.Config{Children: 1, Timeout: before}, 0)
			ticks(f, 3)
			feed(t, f, 0, asked(1, "x"))
			ticks(f, 5)
			reload(t, f, api.Config{Children: 1, Timeout: timeout})
			checkSlot(t, f, 0, old(since(3, busy(1, 0, 1))))
			checkSent(t, f, 0, "")
			f.Tick()
			if timeout == 7 {
				checkSlot(t, f, 0, old(since(3, busy(1, 0, 1))))
				f.Tick()
			}
			checkSlot(t, f, 0, old(keyless(api.Dying, 1)))
			checkSent(t, f, 0, ended(1, api.Late))
		}
	}
}

// TestSinceIsTheTimeOfTheLease, and stays when the key is lost, until the slot is Busy no more.
func TestSinceIsTheTimeOfTheLease(t *testing.T) {
	f := staffed(t, api.Config{Children: 4, Backlog: 9}, 0, 1, 2, 3)
	ticks(f, 5)
	for slot := range 4 {
		feed(t, f, 0, asked(1+slot, "x"))
		f.Tick()
	}
	ticks(f, 11)
	checkTime(t, f, 20)
	feed(t, f, 0, abort(2))
	finished(t, f, 2)
	died(t, f, 3)
	output(t, f, 0, "x")
	checkSlot(t, f, 0, since(5, busy(1, 0, 1)))
	checkSlot(t, f, 1, keyless(api.Dying, 1))
	checkSlot(t, f, 2, keyless(api.Idle, 1))
	checkSlot(t, f, 3, plain(api.Starting))
	hangup(t, f, 0)
	output(t, f, 0, "x")
	checkSlot(t, f, 0, since(5, keyless(api.Busy, 1)))
	connect(t, f, 0)
	feed(t, f, 0, asked(1, "y"))
	checkSlot(t, f, 2, since(20, busy(2, 0, 1)))
	f.Tick()
	feed(t, f, 0, asked(2, "z"))
	finished(t, f, 2)
	checkSlot(t, f, 2, since(21, busy(3, 0, 2)))
	checkSlot(t, f, 0, since(5, keyless(api.Busy, 1)))
}

// TestTimeIsTheNumberOfTicks: no other call moves it.
func TestTimeIsTheNumberOfTicks(t *testing.T) {
	f := staffed(t, api.Config{Children: 1, Backlog: 9}, 0)
	for time := range 2000 {
		checkTime(t, f, time)
		f.Tick()
	}
	feed(t, f, 0, asked(1, "x"))
	output(t, f, 0, "x")
	finished(t, f, 0)
	died(t, f, 0)
	hangup(t, f, 0)
	connect(t, f, 0)
	reload(t, f, api.Config{Children: 2, Timeout: 1})
	checkErrno(t, "P10: Reload", f.Reload(api.Config{}), api.ErrConfig)
	checkTime(t, f, 2000)
}
