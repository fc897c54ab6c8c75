package foreman

import "foreman/api"

// killLate goes by the order of the slots, since what they send over one connection comes in that order.
func (f *Foreman) killLate() {
	for i := range f.slots {
		s := f.slots[i].slot
		if s.State == api.Busy && f.time-s.Since >= f.settings.Timeout {
			f.endKeyOf(i, api.Late)
			f.kill(i)
		}
	}
}

// keepSpares starts or kills one worker at most, so that their number follows the requests slowly.
func (f *Foreman) keepSpares() {
	used := f.used()
	spare := f.spare()
	if spare < f.settings.MinSpare && used < f.settings.Children {
		f.startOne()
		return
	}
	idle := f.count(api.Idle)
	if idle > f.settings.MaxSpare {
		f.killLastIdle()
	}
}

// spare leaves out the Old ones that are Starting, since they will be killed and never be Idle.
func (f *Foreman) spare() int {
	count := 0
	for _, p := range f.slots {
		s := p.slot
		if s.State == api.Idle || s.State == api.Starting && !s.Old {
			count++
		}
	}
	return count
}

func (f *Foreman) killLastIdle() {
	for i := api.MaxSlots - 1; i >= 0; i-- {
		if f.slots[i].slot.State == api.Idle {
			f.kill(i)
			return
		}
	}
}

// retireAll: no worker that started under other settings takes a request any more.
func (f *Foreman) retireAll() {
	for i := range f.slots {
		switch f.slots[i].slot.State {
		case api.Idle:
			f.kill(i)
		case api.Starting, api.Busy:
			f.slots[i].slot.Old = true
		}
	}
}
