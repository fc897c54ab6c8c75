package foreman_test

import (
	"slices"
	"strings"
	"testing"

	"foreman/api"
	"foreman/foreman"
)

// stream: records of every sort that is taken, with paddings, and what is left of them at the end.
func stream() string {
	return written(api.Begin, 1, "\x01", "\x02\x00\x00\x00\x00\x00\x00") + in(1, "hello") + in(1, "") +
		written(api.Begin, 2, "\x01", "ppp") + written(api.In, 2, strings.Repeat("\x02", 200), "") +
		written(api.Begin, 4, "\x07", "") + in(9, "nobody's") + written(api.In, 2, "", "\x01") +
		written(api.Abort, 1, "", "\x01\x01") + abort(1) + begin(1) + begin(3) + begin(5) + begin(6) +
		strings.Repeat(in(3, strings.Repeat("t", 167)), 3) + in(3, "") + asked(7, "") + in(5, "x")
}

func checkStream(t *testing.T, f *foreman.Foreman, conn int) {
	t.Helper()
	checkSent(t, f, conn, ended(4, api.Unknown), ended(1, api.Aborted), ended(6, api.Overloaded), ended(3, api.TooBig))
	checkWaits(t, f, key(conn, 2), key(conn, 7))
	checkOpen(t, f, conn, true)
}

func TestFeedAtOneGo(t *testing.T) {
	f := connected(t, api.Config{Children: 1, Backlog: 9})
	feed(t, f, 3, stream())
	checkStream(t, f, 3)
}

func TestFeedCutAtEveryPlace(t *testing.T) {
	s := stream()
	for cut := range len(s) + 1 {
		f := connected(t, api.Config{Children: 1, Backlog: 9})
		feed(t, f, 0, s[:cut])
		feed(t, f, 0, "")
		feed(t, f, 0, s[cut:])
		checkStream(t, f, 0)
	}
}

func TestFeedInPiecesOfEverySize(t *testing.T) {
	s := stream()
	for size := 1; size <= 250; size++ {
		f := connected(t, api.Config{Children: 1, Backlog: 9})
		for piece := range slices.Chunk([]byte(s), size) {
			feed(t, f, 1, string(piece))
		}
		checkStream(t, f, 1)
	}
}

// TestFeedTakesAsSoonAsWhole: not ahead of the last byte of the padding, and not later.
func TestFeedTakesAsSoonAsWhole(t *testing.T) {
	for pad := range api.MaxPad + 1 {
		f := connected(t, api.Config{Children: 1, Backlog: 9})
		s := written(api.Begin, 258, "\x02", strings.Repeat("\x01", pad))
		feed(t, f, 0, s[:len(s)-1])
		checkSent(t, f, 0, "")
		feed(t, f, 0, s[len(s)-1:])
		checkSent(t, f, 0, ended(258, api.Unknown))
	}
}

// TestFeedTwoConnectionsInTurn: the bytes of one are never put behind those of another.
func TestFeedTwoConnectionsInTurn(t *testing.T) {
	f := connected(t, api.Config{Children: 1, Backlog: 9})
	s := asked(300, "first") + written(api.Begin, 301, "\x09", "pad")
	for i := range len(s) {
		for conn := range api.MaxConns {
			feed(t, f, conn, s[i:i+1])
		}
	}
	checkWaits(t, f, key(0, 300), key(1, 300), key(2, 300), key(3, 300))
	for conn := range api.MaxConns {
		checkSent(t, f, conn, ended(301, api.Unknown))
	}
}

// refused: what closes a connection over which the keys 3 (waiting) and 4 (collecting) are, and how many of
// its bytes do so.
func refused() []struct {
	s     string
	after int
} {
	list := []struct {
		s     string
		after int
	}{
		{written(api.Begin, 9, "", ""), 8},
		{written(api.Begin, 9, "\x01\x01", ""), 8},
		{written(api.Begin, 9, strings.Repeat("\x01", 200), ""), 8},
		{written(api.Begin, 3, "", ""), 8},
		{written(api.Abort, 9, "x", ""), 8},
		{written(api.Abort, 3, "x", "pp"), 8},
		{written(api.Abort, 4, strings.Repeat("x", 200), ""), 8},
		{written(api.End, 3, "\x00", ""), 8},
		{written(api.End, 3, "", ""), 8},
		{written(api.Out, 4, "abc", ""), 8},
		{written(api.Out, 4, "", "p"), 8},
		{written(api.Begin, 3, "\x01", ""), 9},
		{written(api.Begin, 4, "\x01", "ppp"), 12},
		{written(api.Begin, 4, "\x00", ""), 9},
		{written(api.Begin, 3, "\x02", "1234567"), 16},
	}
	for _, head := range badHeads() {
		list = append(list, struct {
			s     string
			after int
		}{head, 8})
	}
	return list
}

func checkClosed(t *testing.T, f *foreman.Foreman, by string) {
	t.Helper()
	if f.Open(0) || !f.Open(1) {
		t.Fatalf("P6: behind %.30q connection 0 is open: %v, connection 1: %v, want no, yes", by, f.Open(0), f.Open(1))
	}
	checkErrno(t, "P6: Feed of one that was closed so", f.Feed(0, ""), api.ErrClosed)
	checkErrno(t, "P5: Hangup of one that was closed so", f.Hangup(0), api.ErrClosed)
	checkWaits(t, f, key(1, 3))
	checkSent(t, f, 0, ended(8, api.Unknown))
}

// closable: what refused speaks of, and the same Id over another connection.
func closable(t *testing.T) *foreman.Foreman {
	f := connected(t, api.Config{Children: 1, Backlog: 9})
	feed(t, f, 1, asked(3, "x"))
	feed(t, f, 0, asked(3, "x"), begin(4), written(api.Begin, 8, "\xff", ""))
	checkWaits(t, f, key(1, 3), key(0, 3))
	return f
}

func TestFeedRefuses(t *testing.T) {
	for _, bad := range refused() {
		f := closable(t)
		feed(t, f, 0, in(4, "more"), bad.s, in(4, ""), written(api.Begin, 7, "\x02", ""), asked(6, "z"))
		checkClosed(t, f, bad.s)
	}
}

func TestFeedRefusesAsSoonAsItCan(t *testing.T) {
	for _, bad := range refused() {
		f, atOnce := closable(t), closable(t)
		for i := range bad.after {
			checkOpen(t, f, 0, true)
			feed(t, f, 0, bad.s[i:i+1])
		}
		checkClosed(t, f, bad.s)
		feed(t, atOnce, 0, bad.s[:bad.after-1])
		checkOpen(t, atOnce, 0, true)
		feed(t, atOnce, 0, bad.s[bad.after-1:])
		checkClosed(t, atOnce, bad.s)
	}
}

func TestConnectBehindRefusal(t *testing.T) {
	for _, bad := range refused() {
		f := closable(t)
		feed(t, f, 0, bad.s, "\x01\x05")
		connect(t, f, 0)
		checkSent(t, f, 0, "")
		feed(t, f, 0, begin(3), begin(4), begin(5), begin(6), in(4, ""))
		checkOpen(t, f, 0, true)
		checkSent(t, f, 0, "")
		checkWaits(t, f, key(1, 3), key(0, 4))
	}
}

func TestFeedRefusesAheadOfAllElse(t *testing.T) {
	f := connected(t, api.Config{Children: 1})
	feed(t, f, 0, badHeads()[1], asked(1, "x"))
	checkOpen(t, f, 0, false)
	checkSent(t, f, 0, "")
	feed(t, f, 1, badHeads()[1][:7])
	checkOpen(t, f, 1, true)
	checkErrno(t, "P5: Hangup", f.Hangup(1), api.OK)
	connect(t, f, 1)
	feed(t, f, 1, badHeads()[1][7:])
	checkOpen(t, f, 1, true)
}

// TestFeedBeginExample: of the document's examples.
func TestFeedBeginExample(t *testing.T) {
	f := connected(t, api.Config{Children: 1})
	feed(t, f, 0, "\x01\x01\x00\x05\x00\x02\x00\x00")
	checkOpen(t, f, 0, false)
	feed(t, f, 1, "\x01\x01\x00\x05\x00\x02\x00")
	checkOpen(t, f, 1, true)
}

// TestFeedVeryMuch: also of a great many records at one go it makes an end soon.
func TestFeedVeryMuch(t *testing.T) {
	const many = 200000
	f := connected(t, api.Config{Children: 1, Backlog: 1})
	one := written(api.Begin, 65535, "\x02", "")
	feed(t, f, 0, strings.Repeat(one, many), strings.Repeat(in(5, "x"), many))
	checkSent(t, f, 0, strings.Repeat(ended(65535, api.Unknown), many))
}
