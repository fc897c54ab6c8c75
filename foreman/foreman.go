// Package foreman: requests from many connections, and a pool of workers: see DOC.md.
package foreman

import (
	"foreman/api"
	"foreman/record"
)

// Foreman stands between connections and workers.
type Foreman struct{}

// Encode writes a record as bytes (P3).
func Encode(r api.Record) (string, api.Errno) { return record.Encode(r) }

// Decode reads the whole records at the beginning of some bytes (P4).
func Decode(s string) ([]api.Record, int, api.Errno) { return record.Decode(s) }

// New makes a foreman (P5).
func New(c api.Config) (*Foreman, api.Errno) { return nil, api.OK }

// Connect opens a connection (P5).
func (f *Foreman) Connect(conn int) api.Errno { return api.OK }

// Hangup closes a connection (P5).
func (f *Foreman) Hangup(conn int) api.Errno { return api.OK }

// Feed tells what has come over a connection (P6, P7).
func (f *Foreman) Feed(conn int, s string) api.Errno { return api.OK }

// Spawned tells that a worker has started (P8).
func (f *Foreman) Spawned(slot int) api.Errno { return api.OK }

// Output tells what a worker has put out (P8).
func (f *Foreman) Output(slot int, s string) api.Errno { return api.OK }

// Finished tells that a worker has served its request (P8).
func (f *Foreman) Finished(slot int) api.Errno { return api.OK }

// Died tells that a worker is no more (P8).
func (f *Foreman) Died(slot int) api.Errno { return api.OK }

// Tick tells that time has gone on (P9).
func (f *Foreman) Tick() {}

// Reload takes other settings (P10).
func (f *Foreman) Reload(c api.Config) api.Errno { return api.OK }

// Open tells whether a connection is open (P11).
func (f *Foreman) Open(conn int) bool { return false }

// Sent is what was sent over a connection (P11).
func (f *Foreman) Sent(conn int) string { return "" }

// Backlog lists the keys that wait (P11).
func (f *Foreman) Backlog() []api.Key { return nil }

// Slot tells what a slot is (P11).
func (f *Foreman) Slot(slot int) (api.Slot, api.Errno) { return api.Slot{}, api.OK }

// Job is what a slot works at (P11).
func (f *Foreman) Job(slot int) (string, api.Errno) { return "", api.OK }

// Time tells the time (P11).
func (f *Foreman) Time() int { return 0 }
