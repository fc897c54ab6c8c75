package foreman

import "foreman/api"

const noConn = -1 // the Conn of a slot without a key; its Id is 0

// place: a slot as it is shown, and the body of the key that was leased to it last.
type place struct {
	slot api.Slot
	job  string // as long as it is Busy, also if it has lost its key
}

func isSlot(slot int) bool { return within(slot, 0, api.MaxSlots-1) }

// newPlace: one that has become Empty or Starting, and begins anew.
func newPlace(state int) place {
	return place{slot: api.Slot{State: state, Conn: noConn}}
}

func (p *place) key() (api.Key, bool) {
	return api.Key{Conn: p.slot.Conn, Id: p.slot.Id}, p.slot.Conn != noConn
}

func (p *place) forgetKey() {
	p.slot.Conn = noConn
	p.slot.Id = 0
}

// becomes: one of the states in which a slot works at nothing. Old and Served stay.
func (p *place) becomes(state int) {
	p.slot.State = state
	p.slot.Since = 0
	p.job = ""
	p.forgetKey()
}

func (f *Foreman) checkState(slot, state int) api.Errno {
	if !isSlot(slot) {
		return api.ErrSlot
	}
	if f.slots[slot].slot.State != state {
		return api.ErrState
	}
	return api.OK
}

func (f *Foreman) kill(slot int) { f.slots[slot].becomes(api.Dying) }

func (f *Foreman) endKeyOf(slot, status int) {
	key, has := f.slots[slot].key()
	if has {
		f.end(key, status)
	}
}

func (f *Foreman) mustGo(slot int) bool {
	s := f.slots[slot].slot
	return s.Old || f.settings.MaxRequests > 0 && s.Served >= f.settings.MaxRequests
}

func (f *Foreman) slotOf(key api.Key) (int, bool) {
	for i, p := range f.slots {
		if p.slot.Conn == key.Conn && p.slot.Id == key.Id {
			return i, true
		}
	}
	return 0, false
}

// settle starts the workers that are missing, and leases what waits.
func (f *Foreman) settle() {
	if !f.settings.Dynamic {
		f.startMissing()
	}
	f.leaseWaiting()
}

func (f *Foreman) startMissing() {
	used := f.used()
	for used < f.settings.Children {
		f.startOne()
		used++
	}
}

func (f *Foreman) startOne() {
	for i := range f.slots {
		if f.slots[i].slot.State == api.Empty {
			f.slots[i] = newPlace(api.Starting)
			return
		}
	}
}

func (f *Foreman) used() int {
	empty := f.count(api.Empty)
	return api.MaxSlots - empty
}

func (f *Foreman) count(state int) int {
	count := 0
	for _, p := range f.slots {
		if p.slot.State == state {
			count++
		}
	}
	return count
}

func (f *Foreman) leaseWaiting() {
	for i := range f.slots {
		at, waits := f.firstWaiting()
		if waits && f.slots[i].slot.State == api.Idle {
			f.lease(at, i)
		}
	}
}

func (f *Foreman) lease(at, slot int) {
	r := &f.requests[at]
	p := &f.slots[slot]
	p.slot.State = api.Busy
	p.slot.Since = f.time
	p.slot.Served++
	p.slot.Conn = r.key.Conn
	p.slot.Id = r.key.Id
	p.job = r.body
	r.stage = leased
	r.body = ""
}
