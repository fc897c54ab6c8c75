package foreman_test

import (
	"slices"
	"strings"
	"testing"

	"foreman/api"
)

func TestBeginOfEveryRole(t *testing.T) {
	f := connected(t, api.Config{Children: 1, Backlog: 9})
	want := ""
	for role := range 256 {
		feed(t, f, 0, written(api.Begin, 1000+role, string([]byte{byte(role)}), ""))
		if role != 1 {
			want += ended(1000+role, api.Unknown)
		}
		checkSent(t, f, 0, want)
	}
	feed(t, f, 0, in(1000, ""), in(1001, ""), in(1002, ""))
	checkWaits(t, f, key(0, 1001))
}

// TestBeginOfAnUnknownRoleIsNoKey: it is no more at once, so its Id may be begun again, and it takes no room.
func TestBeginOfAnUnknownRoleIsNoKey(t *testing.T) {
	f := connected(t, api.Config{Children: 1, Backlog: 9})
	unknown := written(api.Begin, 1, "\x03", "")
	feed(t, f, 0, strings.Repeat(unknown, 6), begin(1), begin(2), begin(3), begin(4))
	checkSent(t, f, 0, strings.Repeat(ended(1, api.Unknown), 6))
	// With MaxKeys keys it is Unknown all the same, since that is asked first.
	feed(t, f, 0, written(api.Begin, 5, "\x03", ""), begin(5))
	checkSent(t, f, 0, strings.Repeat(ended(1, api.Unknown), 6), ended(5, api.Unknown), ended(5, api.Overloaded))
}

func TestBeginMaxKeysAndOneMore(t *testing.T) {
	f := connected(t, api.Config{Children: 1, Backlog: 2})
	// Keys that collect and keys that wait count alike.
	feed(t, f, 0, asked(1, "a"), begin(2), asked(3, ""), begin(4))
	checkSent(t, f, 0, "")
	feed(t, f, 0, begin(5), in(5, "x"), in(5, ""), begin(5))
	checkSent(t, f, 0, ended(5, api.Overloaded), ended(5, api.Overloaded))
	checkOpen(t, f, 0, true)
	checkWaits(t, f, key(0, 1), key(0, 3))
	// Each connection has its own.
	feed(t, f, 1, begin(1), begin(2), begin(3), begin(4))
	checkSent(t, f, 1, "")
	// The four go on; room is there again as soon as one is no more.
	feed(t, f, 0, abort(1), in(2, ""), begin(5), begin(6))
	checkWaits(t, f, key(0, 3), key(0, 2))
	checkSent(t, f, 0, ended(5, api.Overloaded), ended(5, api.Overloaded), ended(1, api.Aborted), ended(6, api.Overloaded))
}

func TestIdsAtTheirEdges(t *testing.T) {
	f := connected(t, api.Config{Children: 1, Backlog: 9})
	ids := []int{1, 255, 256, 65535}
	for _, id := range ids {
		feed(t, f, 2, asked(id, "x"))
	}
	checkWaits(t, f, key(2, 1), key(2, 255), key(2, 256), key(2, 65535))
	feed(t, f, 2, abort(65535), abort(256), abort(255), abort(1))
	checkWaits(t, f)
	checkSent(t, f, 2, ended(65535, api.Aborted), ended(256, api.Aborted), ended(255, api.Aborted), ended(1, api.Aborted))
}

// pieces cuts a body of so many bytes into records of so many bytes at most.
func pieces(id, length, size int) string {
	s := ""
	for piece := range slices.Chunk(slices.Repeat([]byte{'b'}, length), size) {
		s += in(id, string(piece))
	}
	return s
}

func TestBodyOfMaxBodyAndOneMore(t *testing.T) {
	for size := 1; size <= api.MaxContent; size++ {
		f := connected(t, api.Config{Children: 1, Backlog: 9})
		feed(t, f, 0, begin(7), pieces(7, api.MaxBody, size))
		checkSent(t, f, 0, "")
		feed(t, f, 0, in(7, ""))
		checkSent(t, f, 0, "")
		checkWaits(t, f, key(0, 7))
		feed(t, f, 1, begin(7), pieces(7, api.MaxBody+1, size))
		checkSent(t, f, 1, ended(7, api.TooBig))
		feed(t, f, 1, in(7, ""), in(7, "x"))
		checkWaits(t, f, key(0, 7))
		checkSent(t, f, 1, ended(7, api.TooBig))
		checkOpen(t, f, 1, true)
	}
}

func TestBodiesAreTheirKeysOwn(t *testing.T) {
	f := connected(t, api.Config{Children: 1, Backlog: 9})
	part := strings.Repeat("x", 125)
	for id := 1; id <= api.MaxKeys; id++ {
		feed(t, f, 0, begin(id))
	}
	for range 4 {
		for id := 1; id <= api.MaxKeys; id++ {
			feed(t, f, 0, in(id, part))
		}
	}
	checkSent(t, f, 0, "")
	feed(t, f, 0, in(3, "y"))
	checkSent(t, f, 0, ended(3, api.TooBig))
	feed(t, f, 0, in(4, ""), in(1, ""))
	checkWaits(t, f, key(0, 4), key(0, 1))
}

func TestBacklogAsLongAsItMayBe(t *testing.T) {
	const all = api.MaxConns * api.MaxKeys
	for most := range api.MaxBacklog + 1 {
		f := connected(t, api.Config{Children: 2, Backlog: most})
		var want []api.Key
		var sent [api.MaxConns]string
		for i := range all {
			conn, id := i%api.MaxConns, 1+i/api.MaxConns
			feed(t, f, conn, asked(id, "body"))
			if i < most {
				want = append(want, key(conn, id))
			} else {
				sent[conn] += ended(id, api.Overloaded)
			}
			checkWaits(t, f, want...)
			checkSent(t, f, conn, sent[conn])
		}
	}
}

func TestBacklogHasRoomAgain(t *testing.T) {
	f := connected(t, api.Config{Children: 1, Backlog: 2})
	feed(t, f, 0, asked(1, "a"))
	feed(t, f, 1, asked(1, "b"))
	feed(t, f, 2, asked(1, "c"), begin(2))
	checkSent(t, f, 2, ended(1, api.Overloaded))
	feed(t, f, 0, abort(1))
	feed(t, f, 2, in(2, ""), asked(1, "d"))
	checkWaits(t, f, key(1, 1), key(2, 2))
	checkSent(t, f, 2, ended(1, api.Overloaded), ended(1, api.Overloaded))
	checkErrno(t, "P5: Hangup", f.Hangup(1), api.OK)
	feed(t, f, 2, asked(1, "d"))
	checkWaits(t, f, key(2, 2), key(2, 1))
}

// TestBacklogInTheOrderOfEnds: not in that of the Begins.
func TestBacklogInTheOrderOfEnds(t *testing.T) {
	f := connected(t, api.Config{Children: 1, Backlog: 20})
	for conn := range api.MaxConns {
		for id := 1; id <= api.MaxKeys; id++ {
			feed(t, f, conn, begin(id))
		}
	}
	var want []api.Key
	for i := range api.MaxConns * api.MaxKeys {
		n := i * 7 % 16
		feed(t, f, n/4, in(1+n%4, ""))
		want = append(want, key(n/4, 1+n%4))
		checkWaits(t, f, want...)
	}
	// From the middle, from the front, from the end.
	for _, at := range []int{8, 0, 13, 5} {
		feed(t, f, want[at].Conn, abort(want[at].Id))
		want = slices.Delete(want, at, at+1)
		checkWaits(t, f, want...)
	}
}

func TestSameIdOverTwoConnections(t *testing.T) {
	f := connected(t, api.Config{Children: 1, Backlog: 9})
	feed(t, f, 0, begin(7), in(7, "ab"))
	feed(t, f, 1, asked(7, "cd"))
	checkWaits(t, f, key(1, 7))
	feed(t, f, 2, abort(7), in(7, ""))
	checkWaits(t, f, key(1, 7))
	feed(t, f, 0, in(7, ""))
	checkWaits(t, f, key(1, 7), key(0, 7))
	feed(t, f, 1, abort(7))
	checkWaits(t, f, key(0, 7))
	checkSent(t, f, 0, "")
	checkSent(t, f, 1, ended(7, api.Aborted))
	checkSent(t, f, 2, "")
}

func TestAbort(t *testing.T) {
	f := connected(t, api.Config{Children: 1, Backlog: 9})
	feed(t, f, 0, begin(1), abort(1))
	checkSent(t, f, 0, ended(1, api.Aborted))
	feed(t, f, 0, begin(1), in(1, "x"), abort(1), abort(1))
	checkSent(t, f, 0, ended(1, api.Aborted), ended(1, api.Aborted))
	feed(t, f, 0, asked(1, "x"), written(api.Abort, 1, "", "padding"), in(1, ""))
	checkSent(t, f, 0, ended(1, api.Aborted), ended(1, api.Aborted), ended(1, api.Aborted))
	checkWaits(t, f)
	checkSlot(t, f, 0, plain(api.Starting))
}

func TestWhatIsNothing(t *testing.T) {
	f := connected(t, api.Config{Children: 1, Backlog: 9})
	feed(t, f, 0, asked(1, "x"), begin(2))
	full := strings.Repeat("x", api.MaxContent)
	for range 5 {
		feed(t, f, 0, in(1, full), in(1, ""), in(3, full), in(3, ""), abort(3), in(65535, "y"), abort(65535))
		feed(t, f, 1, in(1, "x"), in(1, ""), in(2, ""), abort(2), abort(1))
	}
	checkWaits(t, f, key(0, 1))
	checkSent(t, f, 0, "")
	checkSent(t, f, 1, "")
	feed(t, f, 0, in(2, ""))
	checkWaits(t, f, key(0, 1), key(0, 2))
}
