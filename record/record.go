// Package record: records as bytes, and bytes as records.
package record

import "foreman/api"

const (
	headSize = 8
	mark     = 1 // what every record's first byte is
	maxId    = 65535
)

// head: what the first eight bytes of a record say, in their order.
type head struct {
	mark     int
	kind     int
	id       int
	length   int
	padding  int
	reserved int
}

// Encode writes a record as bytes, without padding.
func Encode(r api.Record) (string, api.Errno) {
	length := len(r.Content)
	if !allowed(r.Kind, r.Id, length) {
		return "", api.ErrRecord
	}
	bytes := []byte{mark, byte(r.Kind), byte(r.Id / 256), byte(r.Id % 256), byte(length / 256), byte(length % 256), 0, 0}
	bytes = append(bytes, r.Content...)
	return string(bytes), api.OK
}

// Decode reads the whole records at the beginning of s, and tells how many bytes they are.
func Decode(s string) ([]api.Record, int, api.Errno) {
	var list []api.Record
	taken := 0
	for taken < len(s) {
		r, size, err := first(s[taken:])
		if err != api.OK {
			return list, taken, err
		}
		if size == 0 {
			return list, taken, api.OK
		}
		list = append(list, r)
		taken += size
	}
	return list, taken, api.OK
}

// FirstRequest reads the record at the beginning of what has come over a connection, and tells how many bytes
// it is: 0 if it does not stand there whole yet. Over a connection fewer heads may come than are good, and the
// others are refused without waiting for what would follow them.
func FirstRequest(s string) (api.Record, int, api.Errno) {
	h, there := readHead(s)
	if there && !h.mayCome() {
		return api.Record{}, 0, api.ErrRecord
	}
	return first(s)
}

// first reads the record at the beginning of s, and tells how many bytes it is, padding and all.
// They are 0 if it does not stand there whole: no record is so short, so the two can't be confused.
func first(s string) (api.Record, int, api.Errno) {
	h, there := readHead(s)
	if !there {
		return api.Record{}, 0, api.OK
	}
	if h.bad() {
		return api.Record{}, 0, api.ErrRecord
	}
	end := headSize + h.length
	size := end + h.padding
	if len(s) < size {
		return api.Record{}, 0, api.OK
	}
	return api.Record{Kind: h.kind, Id: h.id, Content: s[headSize:end]}, size, api.OK
}

// readHead answers false as long as the eight bytes are not all there: fewer are neither good nor bad.
func readHead(s string) (head, bool) {
	if len(s) < headSize {
		return head{}, false
	}
	h := head{
		mark:     int(s[0]),
		kind:     int(s[1]),
		id:       int(s[2])*256 + int(s[3]),
		length:   int(s[4])*256 + int(s[5]),
		padding:  int(s[6]),
		reserved: int(s[7]),
	}
	return h, true
}

func (h head) bad() bool {
	if h.mark != mark || h.padding > api.MaxPad || h.reserved != 0 {
		return true
	}
	return !allowed(h.kind, h.id, h.length)
}

// mayCome tells whether a request may have such a record, going by its Kind and its length alone.
func (h head) mayCome() bool {
	switch h.kind {
	case api.Begin:
		return h.length == 1
	case api.Abort:
		return h.length == 0
	case api.In:
		return true
	}
	return false
}

// allowed tells whether a record may have this kind, this Id and so many bytes of Content.
func allowed(kind, id, length int) bool {
	return isKind(kind) && id >= 1 && id <= maxId && length <= api.MaxContent
}

func isKind(kind int) bool {
	switch kind {
	case api.Begin, api.Abort, api.End, api.In, api.Out:
		return true
	}
	return false
}
