package foreman_test

import (
	"strings"
	"testing"

	"foreman/api"
)

// The document's examples that speak of workers, of the time and of settings that are read anew.

func TestExampleOfOneRequest(t *testing.T) {
	f := newForeman(t, api.Config{Children: 2})
	checkSlot(t, f, 0, plain(api.Starting))
	checkSlot(t, f, 1, plain(api.Starting))
	spawned(t, f, 1)
	checkSlot(t, f, 1, plain(api.Idle))
	connect(t, f, 0)
	feed(t, f, 0, begin(9), in(9, "hi"), in(9, ""))
	checkSlot(t, f, 1, busy(1, 0, 9))
	checkJob(t, f, 1, "hi")
	output(t, f, 1, "yes")
	checkSent(t, f, 0, "\x01\x06\x00\x09\x00\x03\x00\x00yes")
	finished(t, f, 1)
	checkSent(t, f, 0, "\x01\x06\x00\x09\x00\x03\x00\x00yes", "\x01\x03\x00\x09\x00\x01\x00\x00\x00")
	checkSlot(t, f, 1, keyless(api.Idle, 1))
}

func TestExampleOfMaxRequests1(t *testing.T) {
	f := newForeman(t, api.Config{Children: 2, MaxRequests: 1})
	spawned(t, f, 1)
	connect(t, f, 0)
	feed(t, f, 0, asked(9, "hi"))
	output(t, f, 1, "yes")
	finished(t, f, 1)
	checkSlot(t, f, 1, keyless(api.Dying, 1))
	died(t, f, 1)
	checkSlot(t, f, 1, plain(api.Starting))
}

func TestExampleOfTheBacklog(t *testing.T) {
	f := connected(t, api.Config{Children: 1, Backlog: 1})
	feed(t, f, 0, asked(1, "first"), asked(2, "second"))
	checkWaits(t, f, key(0, 1))
	checkSent(t, f, 0, ended(2, api.Overloaded))
	f = staffed(t, api.Config{Children: 1, Backlog: 0}, 0)
	feed(t, f, 0, asked(1, "first"))
	checkSlot(t, f, 0, busy(1, 0, 1))
	checkSent(t, f, 0, "")
}

func TestExampleOfOutput(t *testing.T) {
	f := staffed(t, api.Config{Children: 1}, 0)
	feed(t, f, 0, asked(1, "x"))
	output(t, f, 0, strings.Repeat("a", 200)+strings.Repeat("b", 200)+strings.Repeat("c", 50))
	checkSent(t, f, 0, out(1, strings.Repeat("a", 200)), out(1, strings.Repeat("b", 200)), out(1, strings.Repeat("c", 50)))
}

func TestExampleOfHangup(t *testing.T) {
	f := staffed(t, api.Config{Children: 1}, 0)
	feed(t, f, 0, asked(1, "x"))
	hangup(t, f, 0)
	checkSlot(t, f, 0, keyless(api.Busy, 1))
	output(t, f, 0, "y")
	checkSent(t, f, 0, "")
	finished(t, f, 0)
	checkSlot(t, f, 0, keyless(api.Idle, 1))
	checkSent(t, f, 0, "")
}

func TestExampleOfTimeout3(t *testing.T) {
	f := staffed(t, api.Config{Children: 1, Timeout: 3}, 0)
	ticks(f, 5)
	feed(t, f, 0, asked(1, "x"))
	checkSlot(t, f, 0, since(5, busy(1, 0, 1)))
	ticks(f, 2)
	checkSlot(t, f, 0, since(5, busy(1, 0, 1)))
	checkSent(t, f, 0, "")
	f.Tick()
	checkTime(t, f, 8)
	checkSent(t, f, 0, "\x01\x03\x00\x01\x00\x01\x00\x00\x06")
	checkSlot(t, f, 0, keyless(api.Dying, 1))
}

func TestExampleOfReload(t *testing.T) {
	f := staffed(t, api.Config{Children: 2}, 0, 1)
	feed(t, f, 0, asked(1, "x"))
	reload(t, f, api.Config{Children: 2})
	checkSlot(t, f, 1, plain(api.Dying))
	checkSlot(t, f, 0, old(busy(1, 0, 1)))
	finished(t, f, 0)
	checkSlot(t, f, 0, old(keyless(api.Dying, 1)))
}
