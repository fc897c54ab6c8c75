package foreman_test

import (
	"fmt"
	"math"
	"strings"
	"testing"

	"foreman/api"
	"foreman/foreman"
)

func dynamic(children, least, most int) api.Config {
	return api.Config{Children: children, Dynamic: true, MinSpare: least, MaxSpare: most, Backlog: 20}
}

// employ gives a slot that is Starting a request of its own, as soon as it has started. No slot may be Idle.
func employ(t *testing.T, f *foreman.Foreman, slot int) {
	t.Helper()
	feed(t, f, slot%api.MaxConns, asked(1+slot, "x"))
	spawned(t, f, slot)
	s, _ := f.Slot(slot)
	if s.State != api.Busy || s.Conn != slot%api.MaxConns || s.Id != 1+slot {
		t.Fatalf("P8: slot %d is %+v, want it Busy with its request", slot, s)
	}
}

// veterans: a foreman with these settings, Dynamic, and with slots that were there before them: s, b and d, as in
// checkShape.
func veterans(t *testing.T, c api.Config, shape string) *foreman.Foreman {
	t.Helper()
	if shape == "" {
		return connected(t, c)
	}
	f := connected(t, api.Config{Children: len(shape), Backlog: 20})
	for slot, letter := range shape {
		if letter == 'b' {
			employ(t, f, slot)
		}
	}
	reload(t, f, c)
	for slot, letter := range shape {
		if letter == 'd' {
			spawned(t, f, slot)
		}
	}
	return f
}

// arranged puts behind the veterans slots that are B, I or D, and then so many that are Starting.
func arranged(t *testing.T, c api.Config, before, shape string, starting int) *foreman.Foreman {
	t.Helper()
	f := veterans(t, c, before)
	for i := range shape {
		f.Tick()
		employ(t, f, len(before)+i)
	}
	ticks(f, starting)
	for i, letter := range shape {
		slot := len(before) + i
		switch letter {
		case 'D':
			feed(t, f, slot%api.MaxConns, abort(1+slot))
		case 'I':
			finished(t, f, slot)
		}
	}
	checkShape(t, f, filled(before+shape+strings.Repeat("S", starting)))
	return f
}

// filled up with Empty slots.
func filled(shape string) string { return shape + strings.Repeat(".", api.MaxSlots-len(shape)) }

// afterTick reads the second half of P9 once more: what becomes of such slots, if Dynamic is yes.
func afterTick(shape string, c api.Config) string {
	idle := strings.Count(shape, "I")
	empty := strings.Count(shape, ".")
	if idle+strings.Count(shape, "S") < c.MinSpare && api.MaxSlots-empty < c.Children {
		return strings.Replace(shape, ".", "S", 1)
	}
	if idle > c.MaxSpare {
		last := strings.LastIndex(shape, "I")
		return shape[:last] + "D" + shape[last+1:]
	}
	return shape
}

// shapes lists all words of so many of these letters, and all that are shorter.
func shapes(letters string, longest int) []string {
	list := []string{""}
	for from := 0; longest > 0; longest-- {
		to := len(list)
		for _, shape := range list[from:to] {
			for _, letter := range letters {
				list = append(list, shape+string(letter))
			}
		}
		from = to
	}
	return list
}

// TestTickOfEachShape: all settings of the spares, with every row of Busy, Idle and Dying slots, behind some Old ones
// and before some that are Starting; four Ticks each.
func TestTickOfEachShape(t *testing.T) {
	for children := 1; children <= api.MaxSlots; children++ {
		for most := 1; most <= children; most++ {
			for least := 1; least <= most; least++ {
				for _, before := range []string{"", "s", "b", "d", "sb", "dss"} {
					checkTicksOfEachShape(t, dynamic(children, least, most), before)
				}
			}
		}
	}
}

func checkTicksOfEachShape(t *testing.T, c api.Config, before string) {
	t.Helper()
	for _, shape := range shapes("BID", c.Children-len(before)) {
		for starting := 0; starting <= c.MinSpare && len(before+shape)+starting <= c.Children; starting++ {
			f := arranged(t, c, before, shape, starting)
			now := filled(before + shape + strings.Repeat("S", starting))
			for range 4 {
				f.Tick()
				next := afterTick(now, c)
				if got := shapeOf(f); got != next {
					t.Fatalf("P9: %s with Children %d, MinSpare %d, MaxSpare %d: behind Tick %s, want %s",
						now, c.Children, c.MinSpare, c.MaxSpare, got, next)
				}
				now = next
			}
		}
	}
}

// TestTickAroundChildren: with more slots than Children there are, with as many, and with one fewer. They are Old, and
// so none of them is a spare one.
func TestTickAroundChildren(t *testing.T) {
	for _, letters := range []string{"s", "b", "d"} {
		for count := 1; count <= api.MaxSlots; count++ {
			for children := 1; children <= api.MaxSlots; children++ {
				before := strings.Repeat(letters, count)
				f := veterans(t, dynamic(children, children, children), before)
				for started := range api.MaxSlots {
					checkShape(t, f, filled(before+strings.Repeat("S", max(0, min(started, children-count)))))
					f.Tick()
				}
			}
		}
	}
}

// TestTickStartsWhatBeginsAnew: in the first Empty slot, whatever was in it before.
func TestTickStartsWhatBeginsAnew(t *testing.T) {
	f := arranged(t, dynamic(4, 1, 2), "s", "BI", 0)
	died(t, f, 2)
	checkShape(t, f, "sB....")
	died(t, f, 0)
	checkShape(t, f, ".B....")
	died(t, f, 1)
	checkShape(t, f, "......")
	f.Tick()
	checkSlot(t, f, 0, plain(api.Starting))
	checkShape(t, f, "S.....")
	// The same between two that are there.
	f = arranged(t, dynamic(4, 1, 2), "s", "BB", 1)
	died(t, f, 1, 3)
	checkShape(t, f, "s.B...")
	f.Tick()
	checkSlot(t, f, 1, plain(api.Starting))
	checkShape(t, f, "sSB...")
}

// TestTickKillsTheLastIdle, with what it has served; the others stay as they are.
func TestTickKillsTheLastIdle(t *testing.T) {
	f := arranged(t, dynamic(6, 1, 1), "", "IIBID", 1)
	feed(t, f, 2, asked(9, "again"))
	checkSlot(t, f, 0, since(6, busy(2, 2, 9)))
	finished(t, f, 0)
	want := viewOf(f)
	for _, slot := range []int{3, 1} {
		f.Tick()
		want.time++
		want.slots[slot].State = api.Dying
		checkView(t, "P9: more than MaxSpare are Idle", f, want)
	}
	f.Tick()
	want.time++
	checkView(t, "P9: MaxSpare are Idle", f, want)
	checkSlot(t, f, 0, keyless(api.Idle, 2))
	checkSlot(t, f, 1, keyless(api.Dying, 1))
}

// TestDiedIfDynamic: none is started in its place before the next Tick, but what waits is leased all the same.
func TestDiedIfDynamic(t *testing.T) {
	f := connected(t, dynamic(3, 2, 2))
	ticks(f, 2)
	feed(t, f, 0, asked(1, "a"))
	died(t, f, 0)
	checkShape(t, f, ".S....")
	spawned(t, f, 1)
	checkSlot(t, f, 1, since(2, busy(1, 0, 1)))
	feed(t, f, 0, asked(2, "b"))
	finished(t, f, 1)
	checkSlot(t, f, 1, since(2, busy(2, 0, 2)))
	died(t, f, 1)
	checkShape(t, f, "......")
	checkErrno(t, "P8: Died of an Empty one", f.Died(1), api.ErrState)
	f.Tick()
	checkShape(t, f, "S.....")
}

// TestWaitsForATick: with no worker at all a request waits, until a Tick has asked for one and it has started.
func TestWaitsForATick(t *testing.T) {
	f := connected(t, dynamic(2, 1, 1))
	feed(t, f, 0, asked(1, "a"), asked(2, "b"))
	checkShape(t, f, "......")
	checkWaits(t, f, key(0, 1), key(0, 2))
	ticks(f, 4)
	checkShape(t, f, "S.....")
	checkWaits(t, f, key(0, 1), key(0, 2))
	spawned(t, f, 0)
	checkSlot(t, f, 0, since(4, busy(1, 0, 1)))
	checkWaits(t, f, key(0, 2))
	f.Tick()
	checkShape(t, f, "BS....")
	ticks(f, 3)
	spawned(t, f, 1)
	checkSlot(t, f, 1, since(8, busy(1, 0, 2)))
	checkWaits(t, f)
}

// TestLateIfDynamic: one that is killed at a Tick is no spare one at that very Tick, nor is its place free.
func TestLateIfDynamic(t *testing.T) {
	for i, want := range []string{"D.....", "DS....", "DS...."} {
		children := i + 1
		c := dynamic(children, 1, 1)
		c.Timeout = 2
		f := connected(t, c)
		f.Tick()
		employ(t, f, 0)
		f.Tick()
		if children > 1 {
			checkShape(t, f, "BS....")
			died(t, f, 1)
		}
		checkShape(t, f, "B.....")
		f.Tick()
		checkShape(t, f, want)
		checkSent(t, f, 0, ended(1, api.Late))
	}
}

// TestSparesIfNotDynamic are nothing, whatever they are.
func TestSparesIfNotDynamic(t *testing.T) {
	numbers := []int{math.MinInt, -1, 0, 1, 2, 3, 4, 5, 6, 7, math.MaxInt}
	for _, least := range numbers {
		for _, most := range numbers {
			f := everyStateOf(t, api.Config{Children: 5, MinSpare: least, MaxSpare: most})
			want := viewOf(f)
			ticks(f, 9)
			want.time = 9
			checkView(t, fmt.Sprintf("P9: MinSpare %d, MaxSpare %d, not Dynamic", least, most), f, want)
			f = staffed(t, api.Config{Children: 6, MinSpare: least, MaxSpare: most}, 0, 1, 2, 3, 4, 5)
			ticks(f, 9)
			checkShape(t, f, "IIIIII")
		}
	}
}
