package foreman_test

import (
	"math"
	"strings"
	"testing"

	"foreman/api"
)

var noConnections = []int{math.MinInt, -1 << 32, -1, api.MaxConns, api.MaxConns + 1, 1 << 32, math.MaxInt}

func TestConnectEachOne(t *testing.T) {
	f := newForeman(t, api.Config{Children: 1})
	for conn := range api.MaxConns {
		checkErrno(t, "P5: Hangup of a closed one", f.Hangup(conn), api.ErrClosed)
		checkErrno(t, "P6: Feed of a closed one", f.Feed(conn, begin(1)), api.ErrClosed)
		connect(t, f, conn)
		checkErrno(t, "P5: Connect of an open one", f.Connect(conn), api.ErrOpen)
		for other := range api.MaxConns {
			checkOpen(t, f, other, other <= conn)
		}
	}
	for conn := range api.MaxConns {
		checkErrno(t, "P5: Hangup", f.Hangup(conn), api.OK)
		checkErrno(t, "P5: Hangup once more", f.Hangup(conn), api.ErrClosed)
		for other := range api.MaxConns {
			checkOpen(t, f, other, other > conn)
		}
	}
}

func TestNoSuchConnection(t *testing.T) {
	f := newForeman(t, api.Config{Children: 1})
	for range 2 {
		for _, conn := range noConnections {
			checkErrno(t, "P5: Connect of none", f.Connect(conn), api.ErrConn)
			checkErrno(t, "P5: Hangup of none", f.Hangup(conn), api.ErrConn)
			checkErrno(t, "P6: Feed of none", f.Feed(conn, ""), api.ErrConn)
			checkErrno(t, "P6: Feed of none", f.Feed(conn, badHeads()[0]), api.ErrConn)
		}
		for conn := range api.MaxConns {
			f.Connect(conn) // the second time round all are open
		}
	}
}

// TestErrorsChangeNothing lays wrong calls between the bytes of a request, and a bad head among them.
func TestErrorsChangeNothing(t *testing.T) {
	f := newForeman(t, api.Config{Children: 1, Backlog: 2})
	connect(t, f, 0)
	s := written(api.Begin, 9, "\x05", "") + asked(1, "abc") + begin(2) + in(2, "de")
	for i := range len(s) {
		feed(t, f, 0, s[i:i+1])
		checkErrno(t, "P5: Connect of an open one", f.Connect(0), api.ErrOpen)
		checkErrno(t, "P6: Feed of a closed one", f.Feed(1, asked(7, "x")+badHeads()[0]), api.ErrClosed)
		checkErrno(t, "P5: Hangup of a closed one", f.Hangup(1), api.ErrClosed)
		for _, conn := range noConnections {
			f.Connect(conn)
			f.Hangup(conn)
			f.Feed(conn, abort(1)+badHeads()[0])
		}
	}
	feed(t, f, 0, in(2, ""))
	checkWaits(t, f, key(0, 1), key(0, 2))
	checkSent(t, f, 0, ended(9, api.Unknown))
	checkOpen(t, f, 1, false)
	connect(t, f, 1)
	feed(t, f, 1, asked(7, "x"))
	checkSent(t, f, 1, ended(7, api.Overloaded))
}

func TestHangupDropsKeys(t *testing.T) {
	f := connected(t, api.Config{Children: 1, Backlog: 9})
	feed(t, f, 0, asked(1, "a"), asked(2, "b"), begin(3), in(3, "c"), written(api.Begin, 8, "\x00", ""))
	feed(t, f, 1, asked(1, "a"), begin(3), in(3, "c"))
	feed(t, f, 0, asked(4, "d"))
	checkWaits(t, f, key(0, 1), key(0, 2), key(1, 1), key(0, 4))
	checkErrno(t, "P5: Hangup", f.Hangup(0), api.OK)
	checkWaits(t, f, key(1, 1))
	checkSent(t, f, 0, ended(8, api.Unknown))
	checkSent(t, f, 1, "")
	feed(t, f, 1, in(3, ""))
	checkWaits(t, f, key(1, 1), key(1, 3))
}

func TestConnectBehindHangup(t *testing.T) {
	f := connected(t, api.Config{Children: 1, Backlog: 9})
	feed(t, f, 0, asked(1, "a"), begin(2), in(2, "b"), begin(3), begin(4), begin(5), in(2, "more")[:9])
	checkSent(t, f, 0, ended(5, api.Overloaded))
	checkErrno(t, "P5: Hangup", f.Hangup(0), api.OK)
	checkSent(t, f, 0, ended(5, api.Overloaded))
	connect(t, f, 0)
	checkSent(t, f, 0, "")
	// Of the keys that were collecting or waiting there is none: what is of them is nothing, and their Ids
	// are free. Nor are any bytes there that the first of these could be put behind.
	feed(t, f, 0, in(2, "x"), in(2, ""), abort(1), abort(2), abort(3))
	checkSent(t, f, 0, "")
	checkWaits(t, f)
	feed(t, f, 0, begin(1), begin(2), begin(3), begin(4), begin(5))
	checkOpen(t, f, 0, true)
	checkSent(t, f, 0, ended(5, api.Overloaded))
	feed(t, f, 0, in(2, ""), in(1, ""))
	checkWaits(t, f, key(0, 2), key(0, 1))
}

// TestBodyBegunAnew: the body of a key that was dropped is not the beginning of that of the next of its Id.
func TestBodyBegunAnew(t *testing.T) {
	f := connected(t, api.Config{Children: 1, Backlog: 9})
	full := begin(6) + strings.Repeat(in(6, strings.Repeat("x", 100)), 5)
	for range 3 {
		feed(t, f, 2, full)
		checkErrno(t, "P5: Hangup", f.Hangup(2), api.OK)
		connect(t, f, 2)
	}
	feed(t, f, 2, full, abort(6), full, in(6, "y"), full)
	checkSent(t, f, 2, ended(6, api.Aborted), ended(6, api.TooBig))
	feed(t, f, 2, in(6, ""))
	checkWaits(t, f, key(2, 6))
}
