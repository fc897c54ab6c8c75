package foreman_test

import (
	"fmt"
	"math/rand"
	"slices"
	"strings"
	"testing"

	"foreman/api"
	"foreman/foreman"
)

// model reads the document once more, as something to hold a foreman against. It takes the bytes one by one,
// as they come.
type model struct {
	c       api.Config
	time    int
	open    [api.MaxConns]bool
	came    [api.MaxConns]string
	sent    [api.MaxConns]string
	bodies  map[api.Key]string // of all keys
	backlog []api.Key
	slots   [api.MaxSlots]api.Slot
	jobs    [api.MaxSlots]string
	seen    map[string]int // how often what came about, so that no run passes by having tried nothing
}

func newModel(c api.Config) *model {
	m := &model{c: c, bodies: map[api.Key]string{}, seen: map[string]int{}}
	for slot := range m.slots {
		m.slots[slot] = plain(api.Empty)
	}
	m.settle()
	return m
}

func (m *model) connect(conn int) api.Errno {
	switch {
	case conn < 0 || conn > 3:
		return api.ErrConn
	case m.open[conn]:
		return api.ErrOpen
	}
	m.open[conn], m.came[conn], m.sent[conn] = true, "", ""
	return api.OK
}

func (m *model) hangup(conn int) api.Errno {
	switch {
	case conn < 0 || conn > 3:
		return api.ErrConn
	case !m.open[conn]:
		return api.ErrClosed
	}
	m.open[conn] = false // what has come is forgotten when it is opened again
	for _, id := range m.keysOf(conn) {
		m.forget(key(conn, id))
	}
	return api.OK
}

func (m *model) feed(conn int, s string) api.Errno {
	switch {
	case conn < 0 || conn > 3:
		return api.ErrConn
	case !m.open[conn]:
		return api.ErrClosed
	}
	for i := 0; i < len(s) && m.open[conn]; i++ {
		m.came[conn] += s[i : i+1]
		m.look(conn)
	}
	return api.OK
}

// look is called behind each byte, so at most one record is whole, and a head is there for the first time at eight.
func (m *model) look(conn int) {
	b := []byte(m.came[conn])
	if len(b) < 8 {
		return
	}
	id, length, pad := int(b[2])*256+int(b[3]), int(b[4])*256+int(b[5]), int(b[6])
	good := b[0] == 1 && id > 0 && length <= 200 && pad <= 7 && b[7] == 0 &&
		(b[1] == 5 || b[1] == 1 && length == 1 || b[1] == 2 && length == 0)
	if !good {
		m.seen["bad head"]++
		m.hangup(conn)
		return
	}
	if len(b) < 8+length+pad {
		return
	}
	m.came[conn] = ""
	m.take(key(conn, id), int(b[1]), string(b[8:8+length]))
}

func (m *model) take(k api.Key, kind int, content string) {
	body, isKey := m.bodies[k]
	collecting := isKey && !slices.Contains(m.backlog, k) && m.slotWith(k) < 0
	switch {
	case kind == 1 && isKey:
		m.seen["begun again"]++
		m.hangup(k.Conn)
	case kind == 1 && content != "\x01":
		m.end(k, api.Unknown)
	case kind == 1 && len(m.keysOf(k.Conn)) == 4:
		m.end(k, api.Overloaded)
		m.seen["too many keys"]++
	case kind == 1:
		m.bodies[k] = ""
	case kind == 5 && collecting && len(body+content) > 500:
		m.end(k, api.TooBig)
	case kind == 5 && collecting && content != "":
		m.bodies[k] += content
	case kind == 5 && collecting && (len(m.backlog) < m.c.Backlog || m.first(api.Idle) >= 0):
		m.backlog = append(m.backlog, k)
		m.seen["waits"]++
	case kind == 5 && collecting:
		m.end(k, api.Overloaded)
		m.seen["backlog full"]++
	case kind == 2 && isKey:
		if slot := m.slotWith(k); slot >= 0 {
			m.kill(slot)
		}
		m.end(k, api.Aborted)
	default:
		m.seen["nothing"]++
	}
	m.settle()
}

// keysOf lists their Ids in order, since that of a map would make each run another.
func (m *model) keysOf(conn int) []int {
	var ids []int
	for k := range m.bodies {
		if k.Conn == conn {
			ids = append(ids, k.Id)
		}
	}
	slices.Sort(ids)
	return ids
}

func (m *model) end(k api.Key, status int) {
	m.seen[fmt.Sprintf("status %d", status)]++
	m.sent[k.Conn] += ended(k.Id, status)
	m.forget(k)
}

func (m *model) check(t *testing.T, f *foreman.Foreman) {
	t.Helper()
	for conn := range api.MaxConns {
		checkOpen(t, f, conn, m.open[conn])
		checkSent(t, f, conn, m.sent[conn])
	}
	checkWaits(t, f, m.backlog...)
	for slot := range api.MaxSlots {
		checkSlot(t, f, slot, m.slots[slot])
		if m.slots[slot].State == api.Busy {
			checkJob(t, f, slot, m.jobs[slot])
		} else {
			checkNoJob(t, f, slot)
		}
	}
	checkTime(t, f, m.time)
}

// anyRecord is mostly of one of these keys, or a Begin of none of them: else most would be nothing, or close.
func anyRecord(random *rand.Rand, keys []int) string {
	id, free := 1+random.Intn(9), 1+random.Intn(9)
	if len(keys) > 0 && random.Intn(10) > 0 {
		id = keys[random.Intn(len(keys))]
	}
	for slices.Contains(keys, free) {
		free++
	}
	padding := strings.Repeat("\x01", max(0, random.Intn(12)-4))
	content := strings.Repeat(string(rune('a'+random.Intn(26))), random.Intn(201))
	switch n := random.Intn(400); {
	case n < 90:
		return written(api.Begin, free, "\x01", padding) + in(free, content) + written(api.In, free, "", padding)
	case n < 130:
		return written(api.Begin, free, "\x01", padding)
	case n < 140:
		return written(api.Begin, free, string([]byte{byte(random.Intn(256))}), padding)
	case n < 310:
		return written(api.In, id, content, padding)
	case n < 360:
		return written(api.In, id, "", padding)
	case n < 380:
		return written(api.Abort, id, "", padding)
	case n < 394:
		return "" // a piece that ends where a record does
	case n < 396:
		return written(api.Begin, id, "\x01", padding)
	default:
		return written(random.Intn(8), id-random.Intn(2), content, strings.Repeat("p", random.Intn(10)))
	}
}

// run gives a foreman and its model the same calls, by a fixed seed. What comes over a connection is cut anyhow.
// The requests come in waves: else there would hardly ever be too many workers.
type run struct {
	f     *foreman.Foreman
	m     *model
	left  [api.MaxConns]string
	quiet bool
}

func (r *run) step(t *testing.T, random *rand.Rand) {
	if random.Intn(40) == 0 {
		r.quiet = !r.quiet
	}
	conn := oneOf(random, api.MaxConns)
	switch n := random.Intn(100); {
	case n < 40:
		r.work(t, random)
	case n < 50:
		checkErrno(t, "P5: Connect", r.f.Connect(conn), r.m.connect(conn))
	case n < 51:
		checkErrno(t, "P5: Hangup", r.f.Hangup(conn), r.m.hangup(conn))
	case n < 61:
		r.f.Tick()
		r.m.tick()
	case n < 62:
		r.reload(t, random)
	case r.quiet:
		r.work(t, random)
	default:
		r.feed(t, random, conn)
	}
	for conn, open := range r.m.open {
		if !open {
			r.left[conn] = ""
		}
	}
	r.m.check(t, r.f)
}

// oneOf so many, from 0 on; now and then there is none such.
func oneOf(random *rand.Rand, count int) int {
	if random.Intn(20) == 0 {
		return []int{-1, count}[random.Intn(2)]
	}
	return random.Intn(count)
}

func (r *run) feed(t *testing.T, random *rand.Rand, conn int) {
	real := conn >= 0 && conn < api.MaxConns
	s := anyRecord(random, r.m.keysOf(conn)) + anyRecord(random, r.m.keysOf(conn))
	if real {
		s = r.left[conn] + s
	}
	now := random.Intn(len(s) + 1)
	if random.Intn(2) == 0 {
		now = len(s)
	}
	checkErrno(t, "P6: Feed", r.f.Feed(conn, s[:now]), r.m.feed(conn, s[:now]))
	if real {
		r.left[conn] = s[now:]
	}
}

func (r *run) reload(t *testing.T, random *rand.Rand) {
	c := anySettings(random)
	if random.Intn(3) == 0 {
		c = anySettingsAtAll(random)
	}
	checkErrno(t, "P10: Reload", r.f.Reload(c), r.m.reload(c))
}

// work calls mostly what may be called of the slot that it has come upon: else most would be errors.
func (r *run) work(t *testing.T, random *rand.Rand) {
	slot, n := oneOf(random, api.MaxSlots), random.Intn(100)
	if slot >= 0 && slot < api.MaxSlots && n < 80 {
		switch state := r.m.slots[slot].State; {
		case state == api.Starting && n < 76:
			n = 0
		case state == api.Busy && r.quiet:
			n = 45
		case state == api.Busy:
			n = 20 + n*30/80
		case state == api.Dying:
			n = 99
		}
	}
	switch {
	case n < 20:
		checkErrno(t, "P8: Spawned", r.f.Spawned(slot), r.m.spawned(slot))
	case n < 45:
		s := counted(max(0, random.Intn(650)-50))
		checkErrno(t, "P8: Output", r.f.Output(slot, s), r.m.output(slot, s))
	case n < 95:
		checkErrno(t, "P8: Finished", r.f.Finished(slot), r.m.finished(slot))
	default:
		checkErrno(t, "P8: Died", r.f.Died(slot), r.m.died(slot))
	}
}

func TestAgainstTheModel(t *testing.T) {
	random := rand.New(rand.NewSource(2))
	seen := map[string]int{}
	for range 150 {
		// Two at a time: what one does is nothing to the other.
		var two [2]run
		for i := range two {
			c := anySettings(random)
			two[i] = run{f: newForeman(t, c), m: newModel(c)}
		}
		for range 1000 {
			two[random.Intn(2)].step(t, random)
		}
		for _, r := range two {
			for what, n := range r.m.seen {
				seen[what] += n
			}
		}
	}
	for _, what := range []string{
		"bad head", "begun again", "too many keys", "waits", "backlog full", "nothing",
		"status 0", "status 1", "status 2", "status 3", "status 4", "status 5", "status 6",
		"leased", "leased later", "killed", "served enough", "another state", "no slot",
		"output", "output without a key", "finished", "finished without a key", "died", "died without a key",
		"spawned", "late", "late without a key", "several late", "later than late",
		"spawned of an Old one", "output of an Old one", "finished of an Old one", "died of an Old one", "late of an Old one",
		"spare against MinSpare: -1", "spare against MinSpare: +0", "spare against MinSpare: +1",
		"idle against MaxSpare: -1", "idle against MaxSpare: +0", "idle against MaxSpare: +1",
		"not Empty against Children, too few spare: -1", "not Empty against Children, too few spare: +0",
		"not Empty against Children, too few spare: +1",
		"a spare one started", "a spare one killed", "a spare one started beside an Old one",
		"refused settings", "from Dynamic false to false", "from Dynamic false to true", "from Dynamic true to false",
		"from Dynamic true to true", "more wait than Backlog says", "more than Children",
		"reloaded in state 0", "reloaded in state 1", "reloaded in state 2", "reloaded in state 3", "reloaded in state 4",
	} {
		if seen[what] < 20 {
			t.Errorf("%q came about %d times only: %v", what, seen[what], seen)
		}
	}
}

// TestAnyBytesOverAConnection: noise that begins like a record often enough to go further than the first head.
func TestAnyBytesOverAConnection(t *testing.T) {
	random := rand.New(rand.NewSource(3))
	for range 3000 {
		c := api.Config{Children: 1, Backlog: 1}
		f, m := newForeman(t, c), newModel(c)
		connect(t, f, 0)
		m.connect(0)
		b := []byte(begin(1) + anyRecord(random, []int{1}) + anyRecord(random, []int{1}))
		for range random.Intn(4) {
			b[random.Intn(len(b))] = byte(random.Intn(9))
		}
		for range random.Intn(20) {
			b = append(b, byte(random.Intn(256)))
		}
		feed(t, f, 0, string(b))
		m.feed(0, string(b))
		m.check(t, f)
	}
}
