package foreman

import (
	"foreman/api"
	"foreman/record"
)

const responder = "\x01" // the one role that a Begin may ask for

// takeAll takes the whole records at the beginning of all that has come and was not taken yet.
func (f *Foreman) takeAll(conn int, all string) {
	taken := 0
	for taken < len(all) {
		r, size, err := record.FirstRequest(all[taken:])
		if err == api.OK && size == 0 {
			break
		}
		key := api.Key{Conn: conn, Id: r.Id}
		if err != api.OK || f.beginsAgain(key, r.Kind) {
			f.close(conn)
			return
		}
		f.take(key, r)
		f.settle()
		taken += size
	}
	f.connections[conn].rest = joined("", all[taken:])
}

func (f *Foreman) beginsAgain(key api.Key, kind int) bool {
	_, there := f.find(key)
	return there && kind == api.Begin
}

func (f *Foreman) take(key api.Key, r api.Record) {
	switch r.Kind {
	case api.Begin:
		f.begin(key, r.Content)
	case api.In:
		f.in(key, r.Content)
	case api.Abort:
		f.abort(key)
	}
}

func (f *Foreman) begin(key api.Key, role string) {
	if role != responder {
		f.end(key, api.Unknown)
		return
	}
	keys := f.keysOf(key.Conn)
	if len(keys) >= api.MaxKeys {
		f.end(key, api.Overloaded)
		return
	}
	f.requests = append(f.requests, request{key: key, stage: collecting})
}

func (f *Foreman) in(key api.Key, content string) {
	at, there := f.find(key)
	if !there || f.requests[at].stage != collecting {
		return
	}
	r := f.requests[at]
	if content == "" {
		f.enqueue(r)
		return
	}
	body := joined(r.body, content)
	if len(body) > api.MaxBody {
		f.end(key, api.TooBig)
		return
	}
	f.requests[at].body = body
}

// enqueue puts a request that has come to its end behind all that wait, if there is room for it.
func (f *Foreman) enqueue(r request) {
	if !f.hasRoom() {
		f.end(r.key, api.Overloaded)
		return
	}
	r.stage = waiting
	f.requests = without(f.requests, r.key)
	f.requests = append(f.requests, r)
}

func (f *Foreman) hasRoom() bool {
	idle := f.count(api.Idle)
	backlog := f.Backlog()
	return idle > 0 || len(backlog) < f.settings.Backlog
}

func (f *Foreman) abort(key api.Key) {
	_, there := f.find(key)
	if !there {
		return
	}
	slot, found := f.slotOf(key)
	if found {
		f.kill(slot)
	}
	f.end(key, api.Aborted)
}
