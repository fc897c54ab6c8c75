package foreman_test

import (
	"fmt"
	"strings"
	"testing"

	"foreman/api"
	"foreman/foreman"
)

func TestReloadWithEachSettings(t *testing.T) {
	for _, s := range eachSettings() {
		f := everyState(t)
		before := viewOf(f)
		if s.may {
			checkErrno(t, fmt.Sprintf("P10: Reload(%+v)", s.c), f.Reload(s.c), api.OK)
			continue
		}
		checkErrno(t, fmt.Sprintf("P10: Reload(%+v)", s.c), f.Reload(s.c), api.ErrConfig)
		checkView(t, "P1: behind a Reload that was refused", f, before)
	}
}

// tour gives a foreman the same events every time, as its slots ask for them, and tells all that it showed: enough for
// every setting to be felt.
func tour(t *testing.T, f *foreman.Foreman) string {
	t.Helper()
	var told strings.Builder
	start := f.Time()
	for step := range 160 {
		slot := step % api.MaxSlots
		if step < 120 {
			feed(t, f, step%api.MaxConns, asked(1+step, "x"))
		}
		s, _ := f.Slot(slot)
		switch {
		case s.State == api.Starting:
			spawned(t, f, slot)
		case s.State == api.Busy && (step > 60 || slot < 2):
			finished(t, f, slot)
		case s.State == api.Dying:
			died(t, f, slot)
		}
		if step%4 == 0 {
			f.Tick()
		}
		v := viewOf(f)
		v.time -= start
		for i, s := range v.slots {
			if s.State == api.Busy {
				v.slots[i].Since -= start
			}
		}
		fmt.Fprintf(&told, "%+v\n", v)
	}
	return told.String()
}

// unlike: settings of which no two are the same but for one or two numbers.
func unlike() []api.Config {
	still := api.Config{Children: 3, MaxRequests: 4, Timeout: 9, Backlog: 4}
	moving := api.Config{Children: 4, Dynamic: true, MinSpare: 1, MaxSpare: 2, MaxRequests: 4, Timeout: 9, Backlog: 4}
	list := []api.Config{still, moving}
	for _, c := range list[:2] {
		more := []api.Config{c, c, c, c, c}
		more[0].Children++
		more[1].MaxRequests = 2
		more[2].Timeout = 2
		more[3].Backlog = 0
		more[4].MaxRequests, more[4].Timeout = 0, 0
		list = append(list, more...)
	}
	moving.MinSpare = 2
	list = append(list, moving)
	moving.MaxSpare = 3
	return append(list, moving)
}

func TestEachSettingIsFelt(t *testing.T) {
	told := map[string]api.Config{}
	for _, c := range unlike() {
		s := tour(t, connected(t, c))
		if other, there := told[s]; there {
			t.Fatalf("P5 to P9: with %+v comes about the same as with %+v", c, other)
		}
		told[s] = c
	}
}

// TestRefusedSettingsAreNotTaken: none of them, not even those that would do.
func TestRefusedSettingsAreNotTaken(t *testing.T) {
	for _, c := range unlike() {
		want := tour(t, connected(t, c))
		for _, bad := range []api.Config{
			{},
			{Children: 7, Dynamic: !c.Dynamic, MinSpare: 1, MaxSpare: 1},
			{Children: 2, MaxRequests: 1001, Timeout: 1, Backlog: 1},
			{Children: 2, MaxRequests: 1, Timeout: 1001, Backlog: 1},
			{Children: 2, MaxRequests: 1, Timeout: 1, Backlog: 21},
			{Children: 2, Dynamic: true, MinSpare: 2, MaxSpare: 1, MaxRequests: 1, Timeout: 1, Backlog: 1},
			{Children: 2, Dynamic: true, MinSpare: 1, MaxSpare: 3, MaxRequests: 1, Timeout: 1, Backlog: 1},
		} {
			f := connected(t, c)
			checkErrno(t, "P10: Reload", f.Reload(bad), api.ErrConfig)
			if tour(t, f) != want {
				t.Fatalf("P10, P1: a Reload with %+v was refused, but it is not as before with %+v", bad, c)
			}
		}
	}
}

// TestReloadedIsAsNew: once the old workers are gone, nothing is left of the settings before.
func TestReloadedIsAsNew(t *testing.T) {
	for _, after := range unlike() {
		want := tour(t, connected(t, after))
		for _, before := range unlike() {
			f := connected(t, before)
			ticks(f, 7)
			reload(t, f, after)
			for slot := range api.MaxSlots {
				if s, _ := f.Slot(slot); s.Old {
					died(t, f, slot)
				}
			}
			// A slot that began anew meanwhile may stand behind where it would stand in a new foreman.
			for slot := api.MaxSlots - 1; slot >= 0; slot-- {
				if s, _ := f.Slot(slot); s.State != api.Empty {
					died(t, f, slot)
				}
			}
			if tour(t, f) != want {
				t.Fatalf("P10: from %+v to %+v is not as if it began so", before, after)
			}
		}
	}
}

// TestReloadOfEachState: nothing else changes, and nothing is sent.
func TestReloadOfEachState(t *testing.T) {
	for children := 1; children <= api.MaxSlots; children++ {
		f := everyState(t)
		feed(t, f, 2, asked(1, "takes the Idle one"))
		spawned(t, f, 0)
		finished(t, f, 1)
		died(t, f, 4)
		checkShape(t, f, "IIBBS.")
		feed(t, f, 0, begin(7), in(7, "half"), in(7, "more")[:9])
		want := viewOf(f)
		reload(t, f, api.Config{Children: children, Backlog: 9})
		for slot, s := range []api.Slot{
			plain(api.Dying),
			keyless(api.Dying, 1),
			old(busy(1, 0, 1)),
			old(keyless(api.Busy, 1)),
			old(plain(api.Starting)),
			plain(api.Empty),
		} {
			want.slots[slot] = s
		}
		if children == api.MaxSlots {
			want.slots[5] = plain(api.Starting)
		}
		checkView(t, "P10: behind Reload", f, want)
		// Again: what is Dying stays so, what is Old stays so, and what began anew is Old now.
		reload(t, f, api.Config{Children: children, Backlog: 9})
		want.slots[5].Old = children == api.MaxSlots
		checkView(t, "P10: behind a second Reload", f, want)
		// What had come goes on where it was.
		feed(t, f, 0, in(7, "more")[9:], in(7, ""))
		checkWaits(t, f, key(0, 7))
	}
}

func TestReloadOfADyingOne(t *testing.T) {
	f := everyState(t)
	checkSlot(t, f, 4, keyless(api.Dying, 1))
	reload(t, f, api.Config{Children: 1})
	checkSlot(t, f, 4, keyless(api.Dying, 1))
	ticks(f, 5)
	checkSlot(t, f, 4, keyless(api.Dying, 1))
	died(t, f, 4)
	checkSlot(t, f, 4, plain(api.Empty))
}

// TestReloadToMoreChildren starts those that are missing at once, in the first Empty slots.
func TestReloadToMoreChildren(t *testing.T) {
	for before := 1; before <= api.MaxSlots; before++ {
		for after := 1; after <= api.MaxSlots; after++ {
			f := connected(t, api.Config{Children: before})
			reload(t, f, api.Config{Children: after})
			checkShape(t, f, filled(strings.Repeat("s", before)+strings.Repeat("S", max(0, after-before))))
			f = connected(t, dynamic(before, before, before))
			ticks(f, before-1)
			reload(t, f, api.Config{Children: after})
			checkShape(t, f, filled(strings.Repeat("s", before-1)+strings.Repeat("S", max(0, after-before+1))))
		}
	}
}

// TestReloadToFewerChildren: none is started till there are fewer, and then in the first Empty slot, which need not be
// the one that died.
func TestReloadToFewerChildren(t *testing.T) {
	f := staffed(t, api.Config{Children: 6, Backlog: 9}, 0, 2)
	feed(t, f, 0, asked(1, "a"))
	reload(t, f, api.Config{Children: 3, Backlog: 9})
	checkShape(t, f, "bsDsss")
	died(t, f, 1)
	checkShape(t, f, "b.Dsss")
	died(t, f, 2)
	checkShape(t, f, "b..sss")
	died(t, f, 5)
	checkShape(t, f, "b..ss.")
	died(t, f, 4)
	checkShape(t, f, "bS.s..")
	died(t, f, 0)
	checkShape(t, f, "SS.s..")
	checkSent(t, f, 0, ended(1, api.Died))
	died(t, f, 3)
	checkShape(t, f, "SSS...")
	for slot := range 3 {
		checkSlot(t, f, slot, plain(api.Starting))
	}
}

// TestReloadToASmallerBacklog: what waits stays, in its order; there is room again when fewer wait.
func TestReloadToASmallerBacklog(t *testing.T) {
	for backlog := range 6 {
		f := connected(t, api.Config{Children: 1, Backlog: 9})
		feed(t, f, 2, asked(1, "a"), asked(2, "b"))
		feed(t, f, 0, asked(9, "c"))
		feed(t, f, 2, asked(3, "d"))
		waits := []api.Key{key(2, 1), key(2, 2), key(0, 9), key(2, 3)}
		reload(t, f, api.Config{Children: 6, Backlog: backlog})
		checkWaits(t, f, waits...)
		checkShape(t, f, "sSSSSS")
		for slot := 1; len(waits) > 0; slot++ {
			checkRoom(t, f, len(waits) < backlog)
			checkWaits(t, f, waits...)
			spawned(t, f, slot)
			checkSlot(t, f, slot, busy(1, waits[0].Conn, waits[0].Id))
			waits = waits[1:]
		}
		checkRoom(t, f, backlog > 0)
		spawned(t, f, 5)
		checkRoom(t, f, true)
		for conn := range api.MaxConns - 1 {
			checkSent(t, f, conn, "")
		}
	}
}

// checkRoom asks over connection 3, which is left as it was.
func checkRoom(t *testing.T, f *foreman.Foreman, want bool) {
	t.Helper()
	before := len(f.Sent(3))
	feed(t, f, 3, asked(1, "room?"))
	got := len(f.Sent(3)) == before
	if got != want {
		t.Fatalf("P7, P10: there is room in the backlog: %v, want %v, while there wait %v", got, want, f.Backlog())
	}
	feed(t, f, 3, abort(1))
}

func TestReloadToALargerBacklog(t *testing.T) {
	f := connected(t, api.Config{Children: 1, Backlog: 1})
	feed(t, f, 0, asked(1, "a"), asked(2, "b"))
	checkSent(t, f, 0, ended(2, api.Overloaded))
	reload(t, f, api.Config{Children: 1, Backlog: 3})
	feed(t, f, 0, asked(3, "c"), asked(4, "d"), asked(5, "e"))
	checkWaits(t, f, key(0, 1), key(0, 3), key(0, 4))
	checkSent(t, f, 0, ended(2, api.Overloaded), ended(5, api.Overloaded))
}

// TestReloadTakesTheIdleOnes: with a Backlog of 0 there is no room any more, till a new one has started.
func TestReloadTakesTheIdleOnes(t *testing.T) {
	f := staffed(t, api.Config{Children: 2}, 0, 1)
	reload(t, f, api.Config{Children: 2})
	checkShape(t, f, "DD....")
	checkRoom(t, f, false)
	died(t, f, 0, 1)
	checkShape(t, f, "SS....")
	checkRoom(t, f, false)
	spawned(t, f, 1)
	checkRoom(t, f, true)
}

// TestReloadToAnotherTimeout: it holds for leases that were there before, from when they were leased.
func TestReloadToAnotherTimeout(t *testing.T) {
	for _, c := range []struct{ before, after, late int }{
		{3, 5, 5}, {5, 4, 4}, {5, 3, 3}, {5, 2, 3}, {5, 1, 3}, {0, 4, 4}, {0, 1, 3}, {3, 0, 0}, {1000, 999, 999}, {3, 1000, 1000},
	} {
		f := staffed(t, api.Config{Children: 1, Timeout: c.before}, 0)
		ticks(f, 10)
		feed(t, f, 0, asked(1, "x"))
		ticks(f, 2)
		reload(t, f, api.Config{Children: 1, Timeout: c.after})
		want := 0
		for time := 13; time <= 1100 && want == 0; time++ {
			f.Tick()
			if f.Sent(0) != "" {
				want = time - 10
			}
		}
		if want != c.late {
			t.Fatalf("P10: Timeout %d and, two Ticks behind the lease, %d: late behind %d, want %d", c.before, c.after, want, c.late)
		}
	}
}

// TestReloadToOtherMaxRequests: an Old one is killed whatever it has served, a new one by the new settings.
func TestReloadToOtherMaxRequests(t *testing.T) {
	for _, most := range []int{0, 1, 2, 3, 4, api.MaxCount} {
		f := staffed(t, api.Config{Children: 1, MaxRequests: 3}, 0)
		feed(t, f, 0, asked(1, "a"))
		finished(t, f, 0)
		feed(t, f, 0, asked(2, "b"))
		reload(t, f, api.Config{Children: 1, MaxRequests: most})
		checkSlot(t, f, 0, old(busy(2, 0, 2)))
		finished(t, f, 0)
		checkSlot(t, f, 0, old(keyless(api.Dying, 2)))
		died(t, f, 0)
		spawned(t, f, 0)
		for served := 1; served <= 4; served++ {
			feed(t, f, 1, asked(served, "x"))
			finished(t, f, 0)
			if served == most {
				checkSlot(t, f, 0, keyless(api.Dying, served))
				break
			}
			checkSlot(t, f, 0, keyless(api.Idle, served))
		}
	}
}

// TestReloadToDynamicAndBack: missing ones are started by a Tick while it is so, and at once when it is not.
func TestReloadToDynamicAndBack(t *testing.T) {
	f := staffed(t, api.Config{Children: 3, Backlog: 9}, 0, 1)
	feed(t, f, 0, asked(1, "a"))
	checkShape(t, f, "BIS...")
	reload(t, f, dynamic(5, 2, 2))
	checkShape(t, f, "bDs...")
	f.Tick()
	checkShape(t, f, "bDsS..")
	f.Tick()
	checkShape(t, f, "bDsSS.")
	died(t, f, 1)
	checkShape(t, f, "b.sSS.")
	f.Tick()
	checkShape(t, f, "b.sSS.")
	spawned(t, f, 4)
	checkShape(t, f, "b.sSI.")
	reload(t, f, api.Config{Children: 5, Backlog: 9})
	checkShape(t, f, "bSssD.")
	ticks(f, 3)
	checkShape(t, f, "bSssD.")
	reload(t, f, dynamic(6, 1, 1))
	checkShape(t, f, "bsssD.")
	f.Tick()
	checkShape(t, f, "bsssDS")
	checkSlot(t, f, 0, old(busy(1, 0, 1)))
	checkSent(t, f, 0, "")
}
