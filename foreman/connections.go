package foreman

import (
	"foreman/api"
	"foreman/record"
)

// connection: what is kept of one.
type connection struct {
	open bool
	rest string // what has come over it and is no whole record yet
	sent []byte // stays when it is closed, until it is opened again
}

func isConnection(conn int) bool { return within(conn, 0, api.MaxConns-1) }

func (f *Foreman) checkOpen(conn int) api.Errno {
	if !isConnection(conn) {
		return api.ErrConn
	}
	if !f.connections[conn].open {
		return api.ErrClosed
	}
	return api.OK
}

func (f *Foreman) close(conn int) {
	f.connections[conn].open = false
	f.connections[conn].rest = ""
	keys := f.keysOf(conn)
	for _, key := range keys {
		f.drop(key)
	}
}

// send takes only what a record may be, so Encode refuses none of it.
func (f *Foreman) send(conn int, r api.Record) {
	bytes, _ := record.Encode(r)
	f.connections[conn].sent = append(f.connections[conn].sent, bytes...)
}

// sendOut sends nothing at all of an empty s.
func (f *Foreman) sendOut(key api.Key, s string) {
	for s != "" {
		size := len(s)
		if size > api.MaxContent {
			size = api.MaxContent
		}
		f.send(key.Conn, api.Record{Kind: api.Out, Id: key.Id, Content: s[:size]})
		s = s[size:]
	}
}
