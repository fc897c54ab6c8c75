package foreman_test

import (
	"slices"
	"testing"

	"foreman/api"
	"foreman/foreman"
)

func TestLeaseToTheFirstIdle(t *testing.T) {
	f := staffed(t, api.Config{Children: 4}, 3, 1)
	feed(t, f, 0, asked(9, "hi"))
	checkSlot(t, f, 1, busy(1, 0, 9))
	checkJob(t, f, 1, "hi")
	checkSlot(t, f, 3, plain(api.Idle))
	checkNoJob(t, f, 3)
	feed(t, f, 1, asked(9, "ho"))
	checkSlot(t, f, 3, busy(1, 1, 9))
	checkJob(t, f, 3, "ho")
	checkJob(t, f, 1, "hi")
	checkWaits(t, f)
	// No slot is Idle now, and Backlog is 0.
	feed(t, f, 1, asked(10, "too many"))
	checkSent(t, f, 1, ended(10, api.Overloaded))
	checkSlot(t, f, 0, plain(api.Starting))
}

// TestLeaseByNumber: the first Idle slot, not the one that has been so for longest or has served least.
func TestLeaseByNumber(t *testing.T) {
	f := staffed(t, api.Config{Children: 6}, 5, 4, 3, 2, 1, 0)
	for slot := range 6 {
		feed(t, f, slot%4, asked(slot+1, "x"))
		checkSlot(t, f, slot, busy(1, slot%4, slot+1))
	}
	finished(t, f, 4, 1, 3)
	for i, slot := range []int{1, 3, 4} {
		feed(t, f, 3, asked(20+i, "x"))
		checkSlot(t, f, slot, busy(2, 3, 20+i))
	}
	finished(t, f, 1)
	for i := range 3 {
		feed(t, f, 3, asked(30+i, "x"))
		checkSlot(t, f, 1, busy(3+i, 3, 30+i))
		finished(t, f, 1)
	}
}

// TestLeaseInTheBacklogsOrder: sixteen keys of four connections, by Spawned and Finished of any slot.
func TestLeaseInTheBacklogsOrder(t *testing.T) {
	f := connected(t, api.Config{Children: 3, Backlog: 20})
	var want []api.Key
	for i := range 16 {
		n := i * 5 % 16
		feed(t, f, n/4, asked(1+n%4, string(rune('a'+n))))
		want = append(want, key(n/4, 1+n%4))
	}
	checkWaits(t, f, want...)
	served := [3]int{}
	for i, slot := range []int{2, 0, 2, 2, 1, 0, 1, 2, 0, 0, 1, 1, 2, 0, 2, 1} {
		if served[slot] == 0 {
			spawned(t, f, slot)
		} else {
			finished(t, f, slot)
		}
		served[slot]++
		k := want[i]
		checkSlot(t, f, slot, busy(served[slot], k.Conn, k.Id))
		checkJob(t, f, slot, string(rune('a'+k.Conn*4+k.Id-1)))
		checkWaits(t, f, want[i+1:]...)
	}
	finished(t, f, 0, 1, 2)
	checkSlot(t, f, 0, keyless(api.Idle, served[0]))
	checkSlot(t, f, 2, keyless(api.Idle, served[2]))
}

// TestLeaseAsSoonAsOneIsIdle, by each event that makes one so, and by no other.
func TestLeaseAsSoonAsOneIsIdle(t *testing.T) {
	for _, way := range []struct {
		name string
		do   func(f *foreman.Foreman)
		want int // which slot the key is leased to; none, if it goes on waiting
	}{
		{"Spawned", func(f *foreman.Foreman) { spawned(t, f, 2) }, 2},
		{"Finished", func(f *foreman.Foreman) { finished(t, f, 0) }, 0},
		{"Finished of another", func(f *foreman.Foreman) { finished(t, f, 1) }, 1},
		{"Finished behind Hangup", func(f *foreman.Foreman) { hangup(t, f, 0); finished(t, f, 0) }, 0},
		{"Finished behind a bad head", func(f *foreman.Foreman) { feed(t, f, 1, badHeads()[0]); finished(t, f, 1) }, 1},
		{"Finished behind Output", func(f *foreman.Foreman) { output(t, f, 1, "x"); finished(t, f, 1) }, 1},
		{"Died and Spawned", func(f *foreman.Foreman) { died(t, f, 0); spawned(t, f, 0) }, 0},
		{"Died and Spawned of a Starting one", func(f *foreman.Foreman) { died(t, f, 2); spawned(t, f, 2) }, 2},
		{"Abort, Died and Spawned", func(f *foreman.Foreman) { feed(t, f, 1, abort(1)); died(t, f, 1); spawned(t, f, 1) }, 1},
		{"nothing", func(f *foreman.Foreman) {}, -1},
		{"Hangup", func(f *foreman.Foreman) { hangup(t, f, 0) }, -1},
		{"a bad head", func(f *foreman.Foreman) { feed(t, f, 0, badHeads()[0]) }, -1},
		{"Abort", func(f *foreman.Foreman) { feed(t, f, 0, abort(1)) }, -1},
		{"Abort and Died", func(f *foreman.Foreman) { feed(t, f, 0, abort(1)); died(t, f, 0) }, -1},
		{"Output", func(f *foreman.Foreman) { output(t, f, 0, "x") }, -1},
		{"Died", func(f *foreman.Foreman) { died(t, f, 0) }, -1},
		{"Died of a Starting one", func(f *foreman.Foreman) { died(t, f, 2) }, -1},
	} {
		f := staffed(t, api.Config{Children: 3, Backlog: 3}, 0, 1)
		feed(t, f, 0, asked(1, "first"))
		feed(t, f, 1, asked(1, "second"))
		feed(t, f, 3, asked(8, "waits"))
		feed(t, f, 2, asked(7, "waits too"))
		checkWaits(t, f, key(3, 8), key(2, 7))
		way.do(f)
		checkLeasedTo(t, way.name, f, key(3, 8), way.want)
		if way.want < 0 {
			checkWaits(t, f, key(3, 8), key(2, 7))
			continue
		}
		checkWaits(t, f, key(2, 7))
		checkJob(t, f, way.want, "waits")
		checkLeasedTo(t, way.name, f, key(2, 7), -1)
	}
}

// checkLeasedTo: to this slot and to no other.
func checkLeasedTo(t *testing.T, what string, f *foreman.Foreman, k api.Key, want int) {
	t.Helper()
	for slot := range api.MaxSlots {
		s, _ := f.Slot(slot)
		if has := s.Conn == k.Conn && s.Id == k.Id; has != (slot == want) {
			t.Fatalf("P8: behind %s: slot %d is %+v, and %v should be leased to %d", what, slot, s, k, want)
		}
	}
}

// TestNoLeaseOfWhatIsNoMore: a key that was dropped or has ended while it waited is passed over.
func TestNoLeaseOfWhatIsNoMore(t *testing.T) {
	f := connected(t, api.Config{Children: 2, Backlog: 9})
	feed(t, f, 0, asked(1, "a"))
	feed(t, f, 1, asked(1, "b"), asked(2, "c"))
	feed(t, f, 2, asked(1, "d"))
	feed(t, f, 1, abort(1))
	hangup(t, f, 0)
	spawned(t, f, 1)
	checkSlot(t, f, 1, busy(1, 1, 2))
	checkJob(t, f, 1, "c")
	hangup(t, f, 2)
	spawned(t, f, 0)
	checkSlot(t, f, 0, plain(api.Idle))
	checkWaits(t, f)
}

// TestNoRoomButAnIdleSlot: with a Backlog of 0 each Idle slot takes one key, in one Feed as in several.
func TestNoRoomButAnIdleSlot(t *testing.T) {
	f := staffed(t, api.Config{Children: 4, Backlog: 0}, 1, 2)
	feed(t, f, 0, asked(1, "a"), asked(2, "b"), asked(3, "c"))
	checkSlot(t, f, 1, busy(1, 0, 1))
	checkSlot(t, f, 2, busy(1, 0, 2))
	checkSent(t, f, 0, ended(3, api.Overloaded))
	finished(t, f, 2)
	feed(t, f, 0, asked(3, "c"), asked(4, "d"))
	checkSlot(t, f, 2, busy(2, 0, 3))
	checkSent(t, f, 0, ended(3, api.Overloaded), ended(2, api.Done), ended(4, api.Overloaded))
	checkWaits(t, f)
}

// TestAllSlotsAndAFullBacklog: a key more than there is room for ends, and room is made one by one.
func TestAllSlotsAndAFullBacklog(t *testing.T) {
	f := staffed(t, api.Config{Children: 2, Backlog: 2}, 0, 1)
	feed(t, f, 0, asked(1, "a"), asked(2, "b"), asked(3, "c"), asked(4, "d"))
	checkWaits(t, f, key(0, 3), key(0, 4))
	feed(t, f, 1, asked(1, "e"))
	checkSent(t, f, 1, ended(1, api.Overloaded))
	finished(t, f, 1)
	checkWaits(t, f, key(0, 4))
	feed(t, f, 1, asked(1, "e"), asked(2, "f"))
	checkSent(t, f, 1, ended(1, api.Overloaded), ended(2, api.Overloaded))
	checkWaits(t, f, key(0, 4), key(1, 1))
}

func TestBodyInTheOrderItCame(t *testing.T) {
	f := staffed(t, api.Config{Children: 2}, 0, 1)
	feed(t, f, 0, begin(1), begin(2))
	for _, part := range []string{"a", "\x00\xff", "bc", "a"} {
		feed(t, f, 0, in(1, part), in(2, part+"!"))
	}
	feed(t, f, 0, in(2, ""), in(1, ""))
	checkJob(t, f, 0, "a!\x00\xff!bc!a!")
	checkJob(t, f, 1, "a\x00\xffbca")
}

// TestBodiesOfEachLength: of none, of one, of MaxBody bytes, also when they have waited.
func TestBodiesOfEachLength(t *testing.T) {
	full := counted(api.MaxBody)
	f := connected(t, api.Config{Children: 3, Backlog: 9})
	feed(t, f, 0, asked(1, ""), begin(2), in(2, full[:200]), in(2, full[200:400]), in(2, full[400:]), in(2, ""), asked(3, "x"))
	spawned(t, f, 0, 1, 2)
	for slot, want := range []string{"", full, "x"} {
		checkJob(t, f, slot, want)
	}
	finished(t, f, 1)
	feed(t, f, 1, asked(9, ""))
	checkJob(t, f, 1, "")
}

// TestLeasedKeyCollectsNoMore: In is nothing to it, it still counts, and its Id may not be begun again.
func TestLeasedKeyCollectsNoMore(t *testing.T) {
	f := staffed(t, api.Config{Children: 1, Backlog: 9}, 0)
	feed(t, f, 0, asked(1, "body"), in(1, "more"), in(1, ""))
	checkJob(t, f, 0, "body")
	checkWaits(t, f)
	feed(t, f, 0, begin(2), begin(3), begin(4), begin(5))
	checkSent(t, f, 0, ended(5, api.Overloaded))
	feed(t, f, 0, begin(1))
	checkOpen(t, f, 0, false)
	checkSlot(t, f, 0, keyless(api.Busy, 1))
}

// TestBacklogListsOutliveLeases: a list that came out is not changed when what it names is leased.
func TestBacklogListsOutliveLeases(t *testing.T) {
	f := connected(t, api.Config{Children: 3, Backlog: 9})
	feed(t, f, 0, asked(1, "a"), asked(2, "b"), asked(3, "c"))
	kept := f.Backlog()
	want := slices.Clone(kept)
	spoil(f.Backlog())
	spawned(t, f, 2)
	checkSlot(t, f, 2, busy(1, 0, 1))
	spoil(f.Backlog())
	spawned(t, f, 1)
	checkSlot(t, f, 1, busy(1, 0, 2))
	checkWaits(t, f, key(0, 3))
	finished(t, f, 2)
	died(t, f, 1)
	if !slices.Equal(kept, want) {
		t.Fatalf("P2: a list that came out was changed by later calls: %v, want %v", kept, want)
	}
}

// TestWorkersOfTwoForemen are nothing to each other.
func TestWorkersOfTwoForemen(t *testing.T) {
	c := api.Config{Children: 2, Backlog: 2}
	f, g := connected(t, c), connected(t, c)
	before := viewOf(g)
	spawned(t, f, 0)
	feed(t, f, 0, asked(1, "f"), asked(2, "f too"))
	output(t, f, 0, "out")
	checkView(t, "P2: what another foreman did", g, before)
	feed(t, g, 0, asked(1, "g"))
	spawned(t, g, 0)
	finished(t, f, 0)
	checkJob(t, g, 0, "g")
	checkJob(t, f, 0, "f too")
	checkSent(t, g, 0, "")
	died(t, g, 0)
	checkSlot(t, f, 0, busy(2, 0, 2))
	checkSent(t, g, 0, ended(1, api.Died))
	checkSent(t, f, 0, out(1, "out"), ended(1, api.Done))
}
