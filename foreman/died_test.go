package foreman_test

import (
	"testing"

	"foreman/api"
)

func TestDiedOverAndOver(t *testing.T) {
	f := connected(t, api.Config{Children: 2, Backlog: 9})
	for range 3 {
		died(t, f, 1)
		checkSlot(t, f, 1, plain(api.Starting))
		spawned(t, f, 1)
		died(t, f, 1)
		checkSlot(t, f, 1, plain(api.Starting))
	}
	checkSlot(t, f, 0, plain(api.Starting))
	for conn := range api.MaxConns {
		checkSent(t, f, conn, "")
	}
}

// TestDiedIsNotServedAgain: the key ends, and is not given to another slot, though one is Idle.
func TestDiedIsNotServedAgain(t *testing.T) {
	f := staffed(t, api.Config{Children: 2, Backlog: 9}, 0, 1)
	feed(t, f, 2, asked(300, "a"))
	output(t, f, 0, "half")
	died(t, f, 0)
	checkSent(t, f, 2, out(300, "half"), ended(300, api.Died))
	checkSlot(t, f, 0, plain(api.Starting))
	checkSlot(t, f, 1, plain(api.Idle))
	checkWaits(t, f)
}

// TestDiedTakesNothingElse: other keys of the connection go on, those that are leased and those that wait.
func TestDiedTakesNothingElse(t *testing.T) {
	f := staffed(t, api.Config{Children: 2, Backlog: 9}, 0, 1)
	feed(t, f, 0, asked(1, "a"), asked(2, "b"), asked(3, "c"), begin(4), in(4, "d"))
	died(t, f, 0)
	checkSent(t, f, 0, ended(1, api.Died))
	checkSlot(t, f, 1, busy(1, 0, 2))
	checkJob(t, f, 1, "b")
	checkWaits(t, f, key(0, 3))
	finished(t, f, 1)
	checkSlot(t, f, 1, busy(2, 0, 3))
	feed(t, f, 0, in(4, ""))
	checkWaits(t, f, key(0, 4))
	spawned(t, f, 0)
	checkSlot(t, f, 0, busy(1, 0, 4))
	checkJob(t, f, 0, "d")
}

// TestDiedOfADyingOne: nothing is sent a second time.
func TestDiedOfADyingOne(t *testing.T) {
	f := staffed(t, api.Config{Children: 1, MaxRequests: 1}, 0)
	feed(t, f, 0, asked(1, "a"))
	finished(t, f, 0)
	died(t, f, 0)
	checkSent(t, f, 0, ended(1, api.Done))
	checkSlot(t, f, 0, plain(api.Starting))
	spawned(t, f, 0)
	feed(t, f, 0, asked(1, "a"), abort(1))
	died(t, f, 0)
	checkSent(t, f, 0, ended(1, api.Done), ended(1, api.Aborted))
	checkSlot(t, f, 0, plain(api.Starting))
}
