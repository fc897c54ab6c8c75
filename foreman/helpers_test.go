package foreman_test

import (
	"fmt"
	"slices"
	"strings"
	"testing"

	"foreman/api"
	"foreman/foreman"
)

func newForeman(t *testing.T, c api.Config) *foreman.Foreman {
	t.Helper()
	f, e := foreman.New(c)
	if f == nil || e != api.OK {
		t.Fatalf("P5: New(%+v) = %v, %d, want a foreman, OK", c, f, e)
	}
	return f
}

func checkErrno(t *testing.T, what string, got, want api.Errno) {
	t.Helper()
	if got != want {
		t.Fatalf("%s = %d, want %d", what, got, want)
	}
}

func connect(t *testing.T, f *foreman.Foreman, conn int) {
	t.Helper()
	checkErrno(t, "P5: Connect", f.Connect(conn), api.OK)
}

// connected: a foreman with these settings and all connections open.
func connected(t *testing.T, c api.Config) *foreman.Foreman {
	t.Helper()
	f := newForeman(t, c)
	for conn := range api.MaxConns {
		connect(t, f, conn)
	}
	return f
}

func feed(t *testing.T, f *foreman.Foreman, conn int, parts ...string) {
	t.Helper()
	checkErrno(t, "P6: Feed", f.Feed(conn, strings.Join(parts, "")), api.OK)
}

func checkOpen(t *testing.T, f *foreman.Foreman, conn int, want bool) {
	t.Helper()
	if f.Open(conn) != want {
		t.Fatalf("P11: Open(%d) = %v, want %v", conn, !want, want)
	}
}

func checkSent(t *testing.T, f *foreman.Foreman, conn int, parts ...string) {
	t.Helper()
	want := strings.Join(parts, "")
	if s := f.Sent(conn); s != want {
		t.Fatalf("P11: Sent(%d) = %.150q, want %.150q", conn, s, want)
	}
}

func checkWaits(t *testing.T, f *foreman.Foreman, want ...api.Key) {
	t.Helper()
	if l := f.Backlog(); !slices.Equal(l, want) {
		t.Fatalf("P11: Backlog() = %v, want %v", l, want)
	}
}

func checkSlot(t *testing.T, f *foreman.Foreman, slot int, want api.Slot) {
	t.Helper()
	if s, e := f.Slot(slot); s != want || e != api.OK {
		t.Fatalf("P11: Slot(%d) = %+v, %d, want %+v, OK", slot, s, e, want)
	}
}

// plain: a slot that has only just become what it is, with no key.
func plain(state int) api.Slot { return api.Slot{State: state, Conn: -1} }

func key(conn, id int) api.Key { return api.Key{Conn: conn, Id: id} }

func begin(id int) string              { return written(api.Begin, id, "\x01", "") }
func in(id int, content string) string { return written(api.In, id, content, "") }
func abort(id int) string              { return written(api.Abort, id, "", "") }

// asked: a whole request, with a body of up to MaxContent bytes.
func asked(id int, body string) string {
	if body == "" {
		return begin(id) + in(id, "")
	}
	return begin(id) + in(id, body) + in(id, "")
}

func ended(id, status int) string {
	return written(api.End, id, string([]byte{byte(status)}), "")
}

func out(id int, content string) string { return written(api.Out, id, content, "") }

func spawned(t *testing.T, f *foreman.Foreman, slots ...int) {
	t.Helper()
	for _, slot := range slots {
		checkErrno(t, "P8: Spawned", f.Spawned(slot), api.OK)
	}
}

func output(t *testing.T, f *foreman.Foreman, slot int, s string) {
	t.Helper()
	checkErrno(t, "P8: Output", f.Output(slot, s), api.OK)
}

func finished(t *testing.T, f *foreman.Foreman, slots ...int) {
	t.Helper()
	for _, slot := range slots {
		checkErrno(t, "P8: Finished", f.Finished(slot), api.OK)
	}
}

func died(t *testing.T, f *foreman.Foreman, slots ...int) {
	t.Helper()
	for _, slot := range slots {
		checkErrno(t, "P8: Died", f.Died(slot), api.OK)
	}
}

func hangup(t *testing.T, f *foreman.Foreman, conn int) {
	t.Helper()
	checkErrno(t, "P5: Hangup", f.Hangup(conn), api.OK)
}

func ticks(f *foreman.Foreman, count int) {
	for range count {
		f.Tick()
	}
}

func reload(t *testing.T, f *foreman.Foreman, c api.Config) {
	t.Helper()
	checkErrno(t, "P10: Reload", f.Reload(c), api.OK)
}

func checkTime(t *testing.T, f *foreman.Foreman, want int) {
	t.Helper()
	if f.Time() != want {
		t.Fatalf("P11: Time() = %d, want %d", f.Time(), want)
	}
}

// staffed: a foreman with all connections open, and with workers that have started in these slots.
func staffed(t *testing.T, c api.Config, slots ...int) *foreman.Foreman {
	t.Helper()
	f := connected(t, c)
	spawned(t, f, slots...)
	return f
}

// busy: a slot that has this key.
func busy(served, conn, id int) api.Slot {
	return api.Slot{State: api.Busy, Served: served, Conn: conn, Id: id}
}

// keyless: a slot that has served, but has no key.
func keyless(state, served int) api.Slot {
	return api.Slot{State: state, Served: served, Conn: -1}
}

func old(s api.Slot) api.Slot {
	s.Old = true
	return s
}

// since: of a Busy slot, the time of its lease.
func since(time int, s api.Slot) api.Slot {
	s.Since = time
	return s
}

// shapeOf: each slot as a letter, that of its state or, if it is Old, the small one.
func shapeOf(f *foreman.Foreman) string {
	shape := ""
	for slot := range api.MaxSlots {
		s, _ := f.Slot(slot)
		letters := ".SIBD"
		if s.Old {
			letters = "_sibd"
		}
		shape += letters[s.State : s.State+1]
	}
	return shape
}

func checkShape(t *testing.T, f *foreman.Foreman, want string) {
	t.Helper()
	if shape := shapeOf(f); shape != want {
		t.Fatalf("P8 to P10: at the time %d the slots are %s, want %s", f.Time(), shape, want)
	}
}

func checkJob(t *testing.T, f *foreman.Foreman, slot int, want string) {
	t.Helper()
	if s, e := f.Job(slot); s != want || e != api.OK {
		t.Fatalf("P11: Job(%d) = %.60q, %d, want %.60q, OK", slot, s, e, want)
	}
}

func checkNoJob(t *testing.T, f *foreman.Foreman, slot int) {
	t.Helper()
	if s, e := f.Job(slot); s != "" || e != api.ErrState {
		t.Fatalf("P11, P1: Job(%d) = %.60q, %d, want nothing, ErrState", slot, s, e)
	}
}

// view: all that a foreman shows.
type view struct {
	open    [api.MaxConns]bool
	sent    [api.MaxConns]string
	backlog string
	slots   [api.MaxSlots]api.Slot
	jobs    [api.MaxSlots]string
	time    int
}

func viewOf(f *foreman.Foreman) view {
	v := view{backlog: fmt.Sprint(f.Backlog()), time: f.Time()}
	for conn := range api.MaxConns {
		v.open[conn] = f.Open(conn)
		v.sent[conn] = f.Sent(conn)
	}
	for slot := range api.MaxSlots {
		v.slots[slot], _ = f.Slot(slot)
		v.jobs[slot], _ = f.Job(slot)
	}
	return v
}

func checkView(t *testing.T, what string, f *foreman.Foreman, want view) {
	t.Helper()
	if got := viewOf(f); got != want {
		t.Fatalf("%s: it shows %+.80v, want %+.80v", what, got, want)
	}
}
