package foreman_test

import (
	"math"
	"testing"

	"foreman/api"
	"foreman/foreman"
)

// setting: settings, and whether there may be such.
type setting struct {
	c   api.Config
	may bool
}

func eachSettings() []setting {
	list := settingsAtTheirEdges()
	list = append(list, settingsOfSpares()...)
	return append(list, []setting{
		{api.Config{}, false},
		{api.Config{Dynamic: true}, false},
		{api.Config{Children: -1, Dynamic: true, MinSpare: -1, MaxSpare: -1, MaxRequests: -1, Timeout: -1, Backlog: -1}, false},
		// Spares that would do for these Children, but there may be no such Children.
		{api.Config{Children: api.MaxSlots + 1, Dynamic: true, MinSpare: 1, MaxSpare: 1}, false},
	}...)
}

func settingsAtTheirEdges() []setting {
	var list []setting
	c := api.Config{Children: 3, MaxRequests: 5, Timeout: 5, Backlog: 5}
	for _, edge := range []struct {
		n        *int
		greatest int
		least    int
	}{
		{&c.Children, api.MaxSlots, 1},
		{&c.MaxRequests, api.MaxCount, 0},
		{&c.Timeout, api.MaxCount, 0},
		{&c.Backlog, api.MaxBacklog, 0},
	} {
		before := *edge.n
		for _, n := range []int{edge.least, edge.least + 1, edge.greatest - 1, edge.greatest} {
			*edge.n = n
			list = append(list, setting{c, true})
		}
		for _, n := range []int{math.MinInt, -1000, edge.least - 1, edge.greatest + 1, 1 << 40, math.MaxInt} {
			*edge.n = n
			list = append(list, setting{c, false})
		}
		*edge.n = before
	}
	return list
}

func settingsOfSpares() []setting {
	var list []setting
	numbers := []int{math.MinInt, -1, 0, 1, 2, 3, 4, 5, 6, 7, 1001, math.MaxInt}
	for children := 1; children <= api.MaxSlots; children++ {
		for _, least := range numbers {
			for _, most := range numbers {
				c := api.Config{Children: children, MinSpare: least, MaxSpare: most}
				list = append(list, setting{c, true})
				c.Dynamic = true
				list = append(list, setting{c, 1 <= least && least <= most && most <= children})
			}
		}
	}
	return list
}

func TestNewWithEachSettings(t *testing.T) {
	for _, s := range eachSettings() {
		f, e := foreman.New(s.c)
		if s.may && (f == nil || e != api.OK) {
			t.Fatalf("P5: New(%+v) = %d, want OK", s.c, e)
		}
		if !s.may && (f != nil || e != api.ErrConfig) {
			t.Fatalf("P5, P1: New(%+v) = %d, want nil, ErrConfig", s.c, e)
		}
	}
}

func TestNewStartsChildren(t *testing.T) {
	for children := 1; children <= api.MaxSlots; children++ {
		f := newForeman(t, api.Config{Children: children})
		dynamic := newForeman(t, api.Config{Children: children, Dynamic: true, MinSpare: 1, MaxSpare: 1})
		for slot := range api.MaxSlots {
			state := api.Empty
			if slot < children {
				state = api.Starting
			}
			checkSlot(t, f, slot, plain(state))
			checkSlot(t, dynamic, slot, plain(api.Empty))
		}
	}
}

func TestNewShowsNothingElse(t *testing.T) {
	f := newForeman(t, api.Config{Children: 2, Backlog: 3, Timeout: 4})
	for conn := -1; conn <= api.MaxConns; conn++ {
		checkOpen(t, f, conn, false)
		checkSent(t, f, conn, "")
	}
	checkWaits(t, f)
	if f.Time() != 0 {
		t.Fatalf("P5: Time() of a new foreman = %d, want 0", f.Time())
	}
}

func TestShownOfWhatThereIsNot(t *testing.T) {
	f := connected(t, api.Config{Children: api.MaxSlots, Backlog: 3})
	for conn := range api.MaxConns {
		feed(t, f, conn, written(api.Begin, 5, "\x02", ""))
	}
	for _, conn := range []int{math.MinInt, -4, -1, api.MaxConns, api.MaxConns + 1, math.MaxInt} {
		checkOpen(t, f, conn, false)
		checkSent(t, f, conn, "")
	}
	for _, slot := range []int{math.MinInt, -6, -1, api.MaxSlots, api.MaxSlots + 1, math.MaxInt} {
		if s, e := f.Slot(slot); s != (api.Slot{}) || e != api.ErrSlot {
			t.Fatalf("P11, P1: Slot(%d) = %+v, %d, want noughts, ErrSlot", slot, s, e)
		}
		if s, e := f.Job(slot); s != "" || e != api.ErrSlot {
			t.Fatalf("P11, P1: Job(%d) = %q, %d, want nothing, ErrSlot", slot, s, e)
		}
	}
	for conn := range api.MaxConns {
		checkOpen(t, f, conn, true)
		checkSent(t, f, conn, ended(5, api.Unknown))
	}
}

func TestJobOfOneThatIsNotBusy(t *testing.T) {
	f := newForeman(t, api.Config{Children: 3})
	for slot := range api.MaxSlots {
		if s, e := f.Job(slot); s != "" || e != api.ErrState {
			t.Fatalf("P11: Job(%d) = %q, %d, want nothing, ErrState", slot, s, e)
		}
	}
}
