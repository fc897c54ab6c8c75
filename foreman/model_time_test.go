package foreman_test

import (
	"fmt"
	"math/rand"

	"foreman/api"
)

func (m *model) tick() {
	m.time++
	late := 0
	for slot, s := range m.slots {
		if m.c.Timeout == 0 || s.State != api.Busy || m.time < s.Since+m.c.Timeout {
			continue
		}
		late++
		if m.time > s.Since+m.c.Timeout {
			m.seen["later than late"]++
		}
		if k, has := m.keyAt(slot, "late"); has {
			m.end(k, api.Late)
		}
		m.kill(slot)
	}
	if late > 1 {
		m.seen["several late"]++
	}
	if m.c.Dynamic {
		m.spares()
	}
	m.settle()
}

func (m *model) spares() {
	spare, idle, last, old := 0, 0, -1, false
	for slot, s := range m.slots {
		if s.State == api.Idle {
			idle, last = idle+1, slot
		}
		if s.State == api.Idle || s.State == api.Starting && !s.Old {
			spare++
		}
		old = old || s.Old && s.State == api.Starting
	}
	used := m.notEmpty()
	m.near("spare against MinSpare", spare-m.c.MinSpare)
	m.near("idle against MaxSpare", idle-m.c.MaxSpare)
	if spare >= m.c.MinSpare {
		if idle > m.c.MaxSpare {
			m.seen["a spare one killed"]++
			m.kill(last)
		}
		return
	}
	m.near("not Empty against Children, too few spare", used-m.c.Children)
	if used >= m.c.Children {
		return
	}
	m.seen["a spare one started"]++
	if old {
		m.seen["a spare one started beside an Old one"]++
	}
	m.slots[m.first(api.Empty)] = plain(api.Starting)
}

// near counts how often two numbers were the same, or but one apart.
func (m *model) near(what string, difference int) {
	if difference >= -1 && difference <= 1 {
		m.seen[fmt.Sprintf("%s: %+d", what, difference)]++
	}
}

func (m *model) reload(c api.Config) api.Errno {
	in := func(n, least, most int) bool { return least <= n && n <= most }
	if !in(c.Children, 1, 6) || !in(c.MaxRequests, 0, 1000) || !in(c.Timeout, 0, 1000) || !in(c.Backlog, 0, 20) ||
		c.Dynamic && (!in(c.MinSpare, 1, c.Children) || !in(c.MaxSpare, c.MinSpare, c.Children)) {
		m.seen["refused settings"]++
		return api.ErrConfig
	}
	m.seen[fmt.Sprintf("from Dynamic %v to %v", m.c.Dynamic, c.Dynamic)]++
	if len(m.backlog) > c.Backlog {
		m.seen["more wait than Backlog says"]++
	}
	if m.notEmpty() > c.Children {
		m.seen["more than Children"]++
	}
	m.c = c
	for slot, s := range m.slots {
		m.seen[fmt.Sprintf("reloaded in state %d", s.State)]++
		switch s.State {
		case api.Idle:
			m.kill(slot)
		case api.Starting, api.Busy:
			m.slots[slot].Old = true
		}
	}
	m.settle()
	return api.OK
}

// anySettings are such as there may be, mostly with numbers that are soon reached.
func anySettings(random *rand.Rand) api.Config {
	c := api.Config{
		Children:    1 + random.Intn(api.MaxSlots),
		MinSpare:    random.Intn(20) - 5,
		MaxSpare:    random.Intn(20) - 5,
		MaxRequests: max(0, random.Intn(10)-3),
		Timeout:     max(0, random.Intn(16)-6),
		Backlog:     random.Intn(10),
	}
	if random.Intn(2) == 0 {
		c.Dynamic = true
		c.MaxSpare = 1 + min(random.Intn(c.Children), random.Intn(c.Children))
		c.MinSpare = 1 + random.Intn(c.MaxSpare)
	}
	return c
}

// anySettingsAtAll are mostly such as there may not be.
func anySettingsAtAll(random *rand.Rand) api.Config {
	c := anySettings(random)
	for _, n := range []*int{&c.Children, &c.MinSpare, &c.MaxSpare, &c.MaxRequests, &c.Timeout, &c.Backlog} {
		if random.Intn(4) == 0 {
			*n = []int{-1, 0, 7, 21, 1001}[random.Intn(5)]
		}
	}
	return c
}
