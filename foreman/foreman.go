// Package foreman: requests from many connections, and a pool of workers: see DOC.md.
package foreman

import (
	"foreman/api"
	"foreman/record"
)

// Foreman stands between connections and workers.
type Foreman struct {
	settings    api.Config
	time        int
	connections [api.MaxConns]connection
	requests    []request // those that wait stand in the backlog's order
	slots       [api.MaxSlots]place
}

// Encode writes a record as bytes (P3).
func Encode(r api.Record) (string, api.Errno) { return record.Encode(r) }

// Decode reads the whole records at the beginning of some bytes (P4).
func Decode(s string) ([]api.Record, int, api.Errno) { return record.Decode(s) }

// New makes a foreman (P5).
func New(c api.Config) (*Foreman, api.Errno) {
	if !mayBe(c) {
		return nil, api.ErrConfig
	}
	f := &Foreman{settings: c}
	for i := range f.slots {
		f.slots[i] = newPlace(api.Empty)
	}
	f.settle()
	return f, api.OK
}

// Connect opens a connection (P5).
func (f *Foreman) Connect(conn int) api.Errno {
	if !isConnection(conn) {
		return api.ErrConn
	}
	if f.connections[conn].open {
		return api.ErrOpen
	}
	f.connections[conn] = connection{open: true}
	return api.OK
}

// Hangup closes a connection (P5).
func (f *Foreman) Hangup(conn int) api.Errno {
	err := f.checkOpen(conn)
	if err != api.OK {
		return err
	}
	f.close(conn)
	return api.OK
}

// Feed tells what has come over a connection (P6, P7).
func (f *Foreman) Feed(conn int, s string) api.Errno {
	err := f.checkOpen(conn)
	if err != api.OK {
		return err
	}
	all := f.connections[conn].rest + s
	f.takeAll(conn, all)
	return api.OK
}

// Spawned tells that a worker has started (P8).
func (f *Foreman) Spawned(slot int) api.Errno {
	err := f.checkState(slot, api.Starting)
	if err != api.OK {
		return err
	}
	if f.slots[slot].slot.Old {
		f.kill(slot)
	} else {
		f.slots[slot].becomes(api.Idle)
	}
	f.settle()
	return api.OK
}

// Output tells what a worker has put out (P8).
func (f *Foreman) Output(slot int, s string) api.Errno {
	err := f.checkState(slot, api.Busy)
	if err != api.OK {
		return err
	}
	key, has := f.slots[slot].key()
	if has {
		f.sendOut(key, s)
	}
	f.settle()
	return api.OK
}

// Finished tells that a worker has served its request (P8).
func (f *Foreman) Finished(slot int) api.Errno {
	err := f.checkState(slot, api.Busy)
	if err != api.OK {
		return err
	}
	f.endKeyOf(slot, api.Done)
	if f.mustGo(slot) {
		f.kill(slot)
	} else {
		f.slots[slot].becomes(api.Idle)
	}
	f.settle()
	return api.OK
}

// Died tells that a worker is no more (P8).
func (f *Foreman) Died(slot int) api.Errno {
	if !isSlot(slot) {
		return api.ErrSlot
	}
	if f.slots[slot].slot.State == api.Empty {
		return api.ErrState
	}
	f.endKeyOf(slot, api.Died)
	f.slots[slot] = newPlace(api.Empty)
	f.settle()
	return api.OK
}

// Tick tells that time has gone on (P9).
func (f *Foreman) Tick() {
	f.time++
	if f.settings.Timeout > 0 {
		f.killLate()
	}
	if f.settings.Dynamic {
		f.keepSpares()
	}
	f.settle()
}

// Reload takes other settings (P10).
func (f *Foreman) Reload(c api.Config) api.Errno {
	if !mayBe(c) {
		return api.ErrConfig
	}
	f.settings = c
	f.retireAll()
	f.settle()
	return api.OK
}

// Open tells whether a connection is open (P11).
func (f *Foreman) Open(conn int) bool {
	return isConnection(conn) && f.connections[conn].open
}

// Sent is what was sent over a connection (P11).
func (f *Foreman) Sent(conn int) string {
	if !isConnection(conn) {
		return ""
	}
	return string(f.connections[conn].sent)
}

// Backlog lists the keys that wait (P11).
func (f *Foreman) Backlog() []api.Key {
	var list []api.Key
	for _, r := range f.requests {
		if r.stage == waiting {
			list = append(list, r.key)
		}
	}
	return list
}

// Slot tells what a slot is (P11).
func (f *Foreman) Slot(slot int) (api.Slot, api.Errno) {
	if !isSlot(slot) {
		return api.Slot{}, api.ErrSlot
	}
	return f.slots[slot].slot, api.OK
}

// Job is what a slot works at (P11).
func (f *Foreman) Job(slot int) (string, api.Errno) {
	err := f.checkState(slot, api.Busy)
	if err != api.OK {
		return "", err
	}
	return f.slots[slot].job, api.OK
}

// Time tells the time (P11).
func (f *Foreman) Time() int { return f.time }
