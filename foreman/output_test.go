package foreman_test

import (
	"testing"

	"foreman/api"
)

// counted: so many bytes, no two pieces of which begin alike.
func counted(length int) string {
	b := make([]byte, length)
	for i := range b {
		b[i] = byte(i % 251)
	}
	return string(b)
}

// outs cuts s into Out records: full ones, and then the rest, if there is one.
func outs(id int, s string) string {
	var all []byte
	for len(s) > 0 {
		size := min(200, len(s))
		all = append(all, out(id, s[:size])...)
		s = s[size:]
	}
	return string(all)
}

func TestOutputOfEachSize(t *testing.T) {
	for _, size := range []struct{ length, records int }{
		{0, 0}, {1, 1}, {2, 1}, {199, 1}, {200, 1}, {201, 2}, {399, 2}, {400, 2}, {401, 3}, {450, 3},
		{500, 3}, {600, 3}, {601, 4}, {800, 4}, {1001, 6}, {20000, 100},
	} {
		f := staffed(t, api.Config{Children: 1}, 0)
		feed(t, f, 1, asked(7, "ask"))
		s := counted(size.length)
		output(t, f, 0, s)
		checkSent(t, f, 1, outs(7, s))
		if n := len(f.Sent(1)); n != size.length+8*size.records {
			t.Fatalf("P8: Output of %d bytes sent %d bytes, want %d records", size.length, n, size.records)
		}
		checkSlot(t, f, 0, busy(1, 1, 7))
		checkJob(t, f, 0, "ask")
	}
}

func TestOutputOfAMillionBytes(t *testing.T) {
	f := staffed(t, api.Config{Children: 1}, 0)
	feed(t, f, 0, asked(65535, "ask"))
	s := counted(1 << 20)
	output(t, f, 0, s)
	checkSent(t, f, 0, outs(65535, s))
}

// TestOutputsAreNotJoined: what one Output leaves of a record is not filled up by the next.
func TestOutputsAreNotJoined(t *testing.T) {
	f := staffed(t, api.Config{Children: 1}, 0)
	feed(t, f, 0, asked(256, "ask"))
	want := ""
	for _, s := range []string{"", "a", "", "bc", counted(201), "d", counted(200), "\x00\xff", counted(450), ""} {
		output(t, f, 0, s)
		want += outs(256, s)
		checkSent(t, f, 0, want)
	}
	finished(t, f, 0)
	checkSent(t, f, 0, want, ended(256, api.Done))
}

// TestOutputGoesToItsKey: two of one connection, and two of the same Id.
func TestOutputGoesToItsKey(t *testing.T) {
	f := staffed(t, api.Config{Children: 3}, 0, 1, 2)
	feed(t, f, 0, asked(5, "a"))
	feed(t, f, 3, asked(5, "b"), asked(6, "c"))
	output(t, f, 2, "two")
	output(t, f, 0, "nought")
	output(t, f, 1, "one")
	output(t, f, 2, "two more")
	finished(t, f, 1)
	output(t, f, 2, "two again")
	finished(t, f, 0, 2)
	checkSent(t, f, 0, out(5, "nought"), ended(5, api.Done))
	checkSent(t, f, 3, out(6, "two"), out(5, "one"), out(6, "two more"), ended(5, api.Done), out(6, "two again"), ended(6, api.Done))
	checkSent(t, f, 1, "")
	checkSent(t, f, 2, "")
}

// TestOutputLooksLikeRecords: what a worker puts out is the Content of records, whatever it looks like.
func TestOutputLooksLikeRecords(t *testing.T) {
	f := staffed(t, api.Config{Children: 1}, 0)
	feed(t, f, 0, asked(5, "a"))
	s := ended(5, api.Done) + abort(5) + badHeads()[0]
	output(t, f, 0, s)
	checkSent(t, f, 0, out(5, s))
	checkSlot(t, f, 0, busy(1, 0, 5))
	checkOpen(t, f, 0, true)
}

// TestOutputStaysWhenTheConnectionIsClosed, until it is opened again.
func TestOutputStaysWhenTheConnectionIsClosed(t *testing.T) {
	f := staffed(t, api.Config{Children: 1}, 0)
	feed(t, f, 0, asked(5, "a"))
	output(t, f, 0, "before")
	hangup(t, f, 0)
	output(t, f, 0, "behind")
	checkSent(t, f, 0, out(5, "before"))
	finished(t, f, 0)
	checkSent(t, f, 0, out(5, "before"))
	connect(t, f, 0)
	checkSent(t, f, 0, "")
}
