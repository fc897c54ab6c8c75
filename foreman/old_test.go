package foreman_test

import (
	"slices"
	"testing"

	"foreman/api"
	"foreman/foreman"
)

// TestSpawnedOfAnOldOne: it is killed though something waits, and one that begins anew behind it takes that.
func TestSpawnedOfAnOldOne(t *testing.T) {
	c := api.Config{Children: 2, Backlog: 1}
	f := connected(t, c)
	feed(t, f, 0, asked(1, "x"))
	reload(t, f, c)
	spawned(t, f, 0)
	checkSlot(t, f, 0, old(plain(api.Dying)))
	checkSlot(t, f, 1, old(plain(api.Starting)))
	checkWaits(t, f, key(0, 1))
	checkErrno(t, "P8: Spawned of an Old one that is Dying", f.Spawned(0), api.ErrState)
	died(t, f, 0)
	checkSlot(t, f, 0, plain(api.Starting))
	spawned(t, f, 0)
	checkSlot(t, f, 0, busy(1, 0, 1))
	spawned(t, f, 1)
	checkSlot(t, f, 1, old(plain(api.Dying)))
}

func TestFinishedOfAnOldOne(t *testing.T) {
	for _, most := range []int{0, 1, 2, 3, api.MaxCount} {
		f := staffed(t, api.Config{Children: 1, Backlog: 2}, 0)
		feed(t, f, 0, asked(1, "x"), asked(2, "waits"))
		reload(t, f, api.Config{Children: 1, MaxRequests: most, Backlog: 2})
		output(t, f, 0, "answer")
		checkSlot(t, f, 0, old(busy(1, 0, 1)))
		checkJob(t, f, 0, "x")
		finished(t, f, 0)
		checkSlot(t, f, 0, old(keyless(api.Dying, 1)))
		checkNoJob(t, f, 0)
		checkSent(t, f, 0, out(1, "answer"), ended(1, api.Done))
		checkWaits(t, f, key(0, 2))
		died(t, f, 0)
		checkSlot(t, f, 0, plain(api.Starting))
		spawned(t, f, 0)
		checkSlot(t, f, 0, busy(1, 0, 2))
	}
}

// atOldWork: slot 0 is Old, and Busy with the key 1 of connection 0 since the time 4; the time is 6, Timeout 3.
func atOldWork(t *testing.T) *foreman.Foreman {
	t.Helper()
	c := api.Config{Children: 1, Timeout: 3, Backlog: 9}
	f := staffed(t, c, 0)
	ticks(f, 4)
	feed(t, f, 0, asked(1, "x"), asked(2, "waits"))
	ticks(f, 2)
	reload(t, f, c)
	checkSlot(t, f, 0, old(since(4, busy(1, 0, 1))))
	checkTime(t, f, 6)
	return f
}

func TestEachEndOfAnOldOne(t *testing.T) {
	for _, end := range []struct {
		name string
		do   func(f *foreman.Foreman)
		want api.Slot
		sent string
	}{
		{"Finished", func(f *foreman.Foreman) { finished(t, f, 0) }, old(keyless(api.Dying, 1)), ended(1, api.Done)},
		{"late", func(f *foreman.Foreman) { f.Tick() }, old(keyless(api.Dying, 1)), ended(1, api.Late)},
		{"Abort", func(f *foreman.Foreman) { feed(t, f, 0, abort(1)) }, old(keyless(api.Dying, 1)), ended(1, api.Aborted)},
		{"Died", func(f *foreman.Foreman) { died(t, f, 0) }, plain(api.Starting), ended(1, api.Died)},
		{"Hangup", func(f *foreman.Foreman) { hangup(t, f, 0) }, old(since(4, keyless(api.Busy, 1))), ""},
		{"Hangup, Finished", func(f *foreman.Foreman) { hangup(t, f, 0); finished(t, f, 0) }, old(keyless(api.Dying, 1)), ""},
		{"Hangup, late", func(f *foreman.Foreman) { hangup(t, f, 0); f.Tick() }, old(keyless(api.Dying, 1)), ""},
		{"Hangup, Died", func(f *foreman.Foreman) { hangup(t, f, 0); died(t, f, 0) }, plain(api.Starting), ""},
	} {
		f := atOldWork(t)
		end.do(f)
		if s, _ := f.Slot(0); s != end.want {
			t.Fatalf("P10: behind %s of an Old one it is %+v, want %+v", end.name, s, end.want)
		}
		checkSent(t, f, 0, end.sent)
		// What comes behind it is not Old, and serves what waits.
		if f.Open(0) {
			checkWaits(t, f, key(0, 2))
		} else {
			connect(t, f, 0)
			feed(t, f, 0, asked(2, "waits"))
		}
		if end.want.State != api.Starting {
			died(t, f, 0)
		}
		checkSlot(t, f, 0, plain(api.Starting))
		spawned(t, f, 0)
		checkSlot(t, f, 0, since(f.Time(), busy(1, 0, 2)))
		finished(t, f, 0)
		checkSlot(t, f, 0, keyless(api.Idle, 1))
	}
}

// TestReloadOverAndOver: each time those that began anew are Old too.
func TestReloadOverAndOver(t *testing.T) {
	c := api.Config{Children: 2, Backlog: 9}
	f := connected(t, c)
	for range 3 {
		checkShape(t, f, "SS....")
		employ(t, f, 0)
		spawned(t, f, 1)
		checkShape(t, f, "BI....")
		reload(t, f, c)
		reload(t, f, c)
		checkShape(t, f, "bD....")
		finished(t, f, 0)
		checkShape(t, f, "dD....")
		died(t, f, 1, 0)
	}
	checkSent(t, f, 0, ended(1, api.Done), ended(1, api.Done), ended(1, api.Done))
}

// TestNoneStartsInPlaceOfOldOnes before they Died: they count among Children till then.
func TestNoneStartsInPlaceOfOldOnes(t *testing.T) {
	c := api.Config{Children: 3}
	f := staffed(t, c, 0, 1)
	feed(t, f, 0, asked(1, "x"))
	reload(t, f, c)
	checkShape(t, f, "bDs...")
	finished(t, f, 0)
	spawned(t, f, 2)
	ticks(f, 3)
	checkShape(t, f, "dDd...")
	died(t, f, 2)
	checkShape(t, f, "dDS...")
}

// TestTickAndReloadOfTwoForemen are nothing to each other.
func TestTickAndReloadOfTwoForemen(t *testing.T) {
	c := api.Config{Children: 2, Timeout: 2, Backlog: 2}
	f, g := staffed(t, c, 0, 1), staffed(t, c, 0, 1)
	feed(t, f, 0, asked(1, "f"))
	feed(t, g, 0, asked(1, "g"))
	before := viewOf(g)
	ticks(f, 5)
	reload(t, f, dynamic(6, 3, 3))
	ticks(f, 5)
	checkView(t, "P2: what another foreman did", g, before)
	checkTime(t, f, 10)
	g.Tick()
	checkSlot(t, g, 0, busy(1, 0, 1))
	g.Tick()
	checkSent(t, g, 0, ended(1, api.Late))
	died(t, g, 0)
	checkSlot(t, g, 0, plain(api.Starting))
}

// TestBacklogListsOutliveTickAndReload: and writing into one is nothing to what waits.
func TestBacklogListsOutliveTickAndReload(t *testing.T) {
	f := connected(t, api.Config{Children: 1, Timeout: 1, Backlog: 9})
	feed(t, f, 0, asked(1, "a"), asked(2, "b"), asked(3, "c"))
	kept := f.Backlog()
	want := slices.Clone(kept)
	spoil(f.Backlog())
	f.Tick()
	checkWaits(t, f, want...)
	spoil(f.Backlog())
	reload(t, f, dynamic(2, 1, 1))
	checkWaits(t, f, want...)
	f.Tick()
	spawned(t, f, 1)
	checkWaits(t, f, want[1:]...)
	if !slices.Equal(kept, want) {
		t.Fatalf("P2: a list that came out was changed by later calls: %v, want %v", kept, want)
	}
}
