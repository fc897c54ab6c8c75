package foreman_test

import (
	"testing"

	"foreman/api"
)

// TestFinishedOfSoManyRequests: one less than MaxRequests leaves the worker Idle, as many do not.
func TestFinishedOfSoManyRequests(t *testing.T) {
	for _, most := range []int{1, 2, 3, 7, api.MaxCount} {
		f := staffed(t, api.Config{Children: 1, MaxRequests: most}, 0)
		for served := 1; served < most; served++ {
			feed(t, f, 0, asked(served, "x"))
			checkSlot(t, f, 0, busy(served, 0, served))
			finished(t, f, 0)
			checkSlot(t, f, 0, keyless(api.Idle, served))
		}
		feed(t, f, 0, asked(2000, "x"))
		checkSlot(t, f, 0, busy(most, 0, 2000))
		finished(t, f, 0)
		checkSlot(t, f, 0, keyless(api.Dying, most))
		checkNoJob(t, f, 0)
		// A new one begins at nought, and may serve as many again.
		died(t, f, 0)
		spawned(t, f, 0)
		feed(t, f, 1, asked(1, "x"))
		finished(t, f, 0)
		state := api.Idle
		if most == 1 {
			state = api.Dying
		}
		checkSlot(t, f, 0, keyless(state, 1))
	}
}

func TestFinishedWithoutMaxRequests(t *testing.T) {
	f := staffed(t, api.Config{Children: 1}, 0)
	want := ""
	for served := 1; served <= api.MaxCount+2; served++ {
		feed(t, f, 0, asked(served, "x"))
		finished(t, f, 0)
		checkSlot(t, f, 0, keyless(api.Idle, served))
		want += ended(served, api.Done)
	}
	checkSent(t, f, 0, want)
}

// TestServedCountsWhatWasLost: what was leased counts, whatever has become of the key.
func TestServedCountsWhatWasLost(t *testing.T) {
	f := staffed(t, api.Config{Children: 1, MaxRequests: 3}, 0)
	feed(t, f, 0, asked(1, "x"))
	hangup(t, f, 0)
	finished(t, f, 0)
	checkSlot(t, f, 0, keyless(api.Idle, 1))
	feed(t, f, 1, asked(1, "x"))
	finished(t, f, 0)
	checkSlot(t, f, 0, keyless(api.Idle, 2))
	feed(t, f, 2, asked(1, "x"), badHeads()[0])
	checkSlot(t, f, 0, keyless(api.Busy, 3))
	finished(t, f, 0)
	checkSlot(t, f, 0, keyless(api.Dying, 3))
}

// TestMaxRequestsOfEachSlot: each slot counts its own.
func TestMaxRequestsOfEachSlot(t *testing.T) {
	f := staffed(t, api.Config{Children: 2, MaxRequests: 2}, 0, 1)
	feed(t, f, 0, asked(1, "x"))
	finished(t, f, 0)
	feed(t, f, 0, asked(2, "x"), asked(3, "x"))
	finished(t, f, 1)
	checkSlot(t, f, 1, keyless(api.Idle, 1))
	finished(t, f, 0)
	checkSlot(t, f, 0, keyless(api.Dying, 2))
	checkSlot(t, f, 1, keyless(api.Idle, 1))
}

// TestDyingServesNoMore: what waits goes on waiting, until a new worker has started.
func TestDyingServesNoMore(t *testing.T) {
	f := staffed(t, api.Config{Children: 1, MaxRequests: 1, Backlog: 1}, 0)
	feed(t, f, 0, asked(1, "a"), asked(2, "b"), asked(3, "c"))
	checkSent(t, f, 0, ended(3, api.Overloaded))
	finished(t, f, 0)
	checkSlot(t, f, 0, keyless(api.Dying, 1))
	checkWaits(t, f, key(0, 2))
	// One that is Dying is not Idle: the backlog is full.
	feed(t, f, 0, asked(3, "c"))
	checkSent(t, f, 0, ended(3, api.Overloaded), ended(1, api.Done), ended(3, api.Overloaded))
	died(t, f, 0)
	checkSlot(t, f, 0, plain(api.Starting))
	checkWaits(t, f, key(0, 2))
	spawned(t, f, 0)
	checkSlot(t, f, 0, busy(1, 0, 2))
	checkJob(t, f, 0, "b")
	checkWaits(t, f)
}

// TestEndedKeyIsNoMore: behind Finished and Died its Id is free, and what is of it is nothing.
func TestEndedKeyIsNoMore(t *testing.T) {
	for _, finish := range []bool{true, false} {
		f := staffed(t, api.Config{Children: 1, Backlog: 1}, 0)
		feed(t, f, 0, asked(1, "a"), begin(2), begin(3), begin(4))
		status := api.Died
		if finish {
			status = api.Done
			finished(t, f, 0)
		} else {
			died(t, f, 0)
		}
		checkSent(t, f, 0, ended(1, status))
		feed(t, f, 0, abort(1), in(1, "x"), in(1, ""))
		checkSent(t, f, 0, ended(1, status))
		checkWaits(t, f)
		// There is room for one key more, and it may have the same Id.
		feed(t, f, 0, begin(1), in(1, "again"), begin(5))
		checkSent(t, f, 0, ended(1, status), ended(5, api.Overloaded))
		checkOpen(t, f, 0, true)
	}
}
