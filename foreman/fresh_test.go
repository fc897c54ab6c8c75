package foreman_test

import (
	"slices"
	"testing"

	"foreman/api"
)

// spoil writes into all of a list that came out, its spare room too, and puts something behind it.
func spoil(list []api.Key) {
	room := list[:cap(list)]
	for i := range room {
		room[i] = key(-7, -7)
	}
	list = append(list, key(-8, -8))
	list[0] = key(-9, -9)
}

// TestBacklogListsAreFresh does so at every length that a backlog may have.
func TestBacklogListsAreFresh(t *testing.T) {
	f := connected(t, api.Config{Children: 1, Backlog: 20})
	var want []api.Key
	for i := range api.MaxConns * api.MaxKeys {
		checkWaits(t, f, want...)
		before := f.Backlog()
		spoil(f.Backlog())
		after := f.Backlog()
		spoil(f.Backlog())
		if !slices.Equal(before, want) || !slices.Equal(after, want) {
			t.Fatalf("P2: writing over one list changed another: %v, %v, want %v", before, after, want)
		}
		feed(t, f, i%4, asked(1+i/4, "x"))
		want = append(want, key(i%4, 1+i/4))
		checkWaits(t, f, want...)
	}
	for len(want) > 0 {
		spoil(f.Backlog())
		feed(t, f, want[0].Conn, abort(want[0].Id))
		want = want[1:]
		checkWaits(t, f, want...)
	}
}

func TestBacklogListsOutliveLaterCalls(t *testing.T) {
	f := connected(t, api.Config{Children: 1, Backlog: 20})
	feed(t, f, 0, asked(1, "a"), asked(2, "b"), asked(3, "c"))
	kept := f.Backlog()
	want := slices.Clone(kept)
	feed(t, f, 1, asked(9, "d"))
	feed(t, f, 0, abort(2), asked(8, "e"))
	if !slices.Equal(kept, want) {
		t.Fatalf("P2: a list that came out was changed by later calls: %v, want %v", kept, want)
	}
	f.Hangup(0)
	f.Hangup(1)
	if !slices.Equal(kept, want) {
		t.Fatalf("P2: a list that came out was changed by Hangup: %v, want %v", kept, want)
	}
}

func TestForemenAreNothingToEachOther(t *testing.T) {
	c := api.Config{Children: 2, Backlog: 2}
	f, g := newForeman(t, c), newForeman(t, c)
	connect(t, f, 0)
	checkOpen(t, g, 0, false)
	connect(t, g, 0)
	feed(t, f, 0, asked(1, "f"), begin(2), in(2, "x")[:4])
	checkWaits(t, g)
	feed(t, g, 0, asked(1, "g"), asked(2, "g"), asked(3, "g"))
	checkSent(t, g, 0, ended(3, api.Overloaded))
	checkSent(t, f, 0, "")
	checkWaits(t, f, key(0, 1))
	checkErrno(t, "P5: Hangup", g.Hangup(0), api.OK)
	feed(t, f, 0, in(2, "x")[4:], in(2, ""))
	checkWaits(t, f, key(0, 1), key(0, 2))
	checkWaits(t, g)
}
