package foreman_test

import (
	"slices"

	"foreman/api"
)

// first: the number of the first slot in this state, or -1.
func (m *model) first(state int) int {
	return slices.IndexFunc(m.slots[:], func(s api.Slot) bool { return s.State == state })
}

// slotWith: the number of the slot that has this key, or -1.
func (m *model) slotWith(k api.Key) int {
	return slices.IndexFunc(m.slots[:], func(s api.Slot) bool { return key(s.Conn, s.Id) == k })
}

func (m *model) notEmpty() int {
	n := 0
	for _, s := range m.slots {
		if s.State != api.Empty {
			n++
		}
	}
	return n
}

func (m *model) settle() {
	for !m.c.Dynamic && m.notEmpty() < m.c.Children {
		m.slots[m.first(api.Empty)] = plain(api.Starting)
	}
	for len(m.backlog) > 0 && m.first(api.Idle) >= 0 {
		slot, k := m.first(api.Idle), m.backlog[0]
		m.backlog = m.backlog[1:]
		m.slots[slot] = since(m.time, busy(m.slots[slot].Served+1, k.Conn, k.Id))
		m.jobs[slot] = m.bodies[k]
		m.seen["leased"]++
	}
}

func (m *model) kill(slot int) {
	m.seen["killed"]++
	s := m.slots[slot]
	m.slots[slot] = api.Slot{State: api.Dying, Old: s.Old, Served: s.Served, Conn: -1}
}

// forget: the key is no more.
func (m *model) forget(k api.Key) {
	delete(m.bodies, k)
	m.backlog = slices.DeleteFunc(m.backlog, func(other api.Key) bool { return other == k })
	if slot := m.slotWith(k); slot >= 0 {
		m.slots[slot].Conn, m.slots[slot].Id = -1, 0
	}
}

// at: what is the matter with a call that may be made at a slot in one of these states.
func (m *model) at(slot int, states ...int) api.Errno {
	switch {
	case slot < 0 || slot > 5:
		m.seen["no slot"]++
		return api.ErrSlot
	case !slices.Contains(states, m.slots[slot].State):
		m.seen["another state"]++
		return api.ErrState
	}
	return api.OK
}

// keyAt counts how often this was asked of a slot with a key, and of one without.
func (m *model) keyAt(slot int, what string) (api.Key, bool) {
	s := m.slots[slot]
	if s.Old {
		m.seen[what+" of an Old one"]++
	}
	if s.Conn < 0 {
		what += " without a key"
	}
	m.seen[what]++
	return key(s.Conn, s.Id), s.Conn >= 0
}

func (m *model) spawned(slot int) api.Errno {
	if e := m.at(slot, api.Starting); e != api.OK {
		return e
	}
	if m.slots[slot].Old {
		m.seen["spawned of an Old one"]++
		m.kill(slot)
	} else {
		m.seen["spawned"]++
		m.slots[slot] = plain(api.Idle)
	}
	m.settle()
	if m.slots[slot].State == api.Busy {
		m.seen["leased later"]++
	}
	return api.OK
}

func (m *model) output(slot int, s string) api.Errno {
	if e := m.at(slot, api.Busy); e != api.OK {
		return e
	}
	if k, has := m.keyAt(slot, "output"); has {
		m.sent[k.Conn] += outs(k.Id, s)
	}
	m.settle()
	return api.OK
}

func (m *model) finished(slot int) api.Errno {
	if e := m.at(slot, api.Busy); e != api.OK {
		return e
	}
	if k, has := m.keyAt(slot, "finished"); has {
		m.end(k, api.Done)
	}
	served := m.slots[slot].Served
	switch {
	case m.slots[slot].Old:
		m.kill(slot)
	case m.c.MaxRequests > 0 && served >= m.c.MaxRequests:
		m.seen["served enough"]++
		m.kill(slot)
	default:
		m.slots[slot] = keyless(api.Idle, served)
	}
	m.settle()
	return api.OK
}

func (m *model) died(slot int) api.Errno {
	if e := m.at(slot, api.Starting, api.Idle, api.Busy, api.Dying); e != api.OK {
		return e
	}
	if k, has := m.keyAt(slot, "died"); has {
		m.end(k, api.Died)
	}
	m.slots[slot] = plain(api.Empty)
	m.settle()
	return api.OK
}
