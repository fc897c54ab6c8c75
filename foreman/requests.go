package foreman

import "foreman/api"

// What a key is at, one after the other.
const (
	collecting = 0
	waiting    = 1
	leased     = 2
)

// request: a key, from the Begin that opens it on until it is no more.
type request struct {
	key   api.Key
	stage int
	body  string // until it is leased: the slot has it then
}

func (f *Foreman) find(key api.Key) (int, bool) {
	for i, r := range f.requests {
		if r.key == key {
			return i, true
		}
	}
	return 0, false
}

func (f *Foreman) keysOf(conn int) []api.Key {
	var list []api.Key
	for _, r := range f.requests {
		if r.key.Conn == conn {
			list = append(list, r.key)
		}
	}
	return list
}

func (f *Foreman) firstWaiting() (int, bool) {
	for i, r := range f.requests {
		if r.stage == waiting {
			return i, true
		}
	}
	return 0, false
}

// end also serves for a key that ends at once when it is opened, and so never was among the requests.
func (f *Foreman) end(key api.Key, status int) {
	f.send(key.Conn, api.Record{Kind: api.End, Id: key.Id, Content: string([]byte{byte(status)})})
	f.drop(key)
}

func (f *Foreman) drop(key api.Key) {
	f.requests = without(f.requests, key)
	slot, found := f.slotOf(key)
	if found {
		f.slots[slot].forgetKey()
	}
}

func without(list []request, key api.Key) []request {
	var kept []request
	for _, r := range list {
		if r.key != key {
			kept = append(kept, r)
		}
	}
	return kept
}

// joined copies both, so that what is kept never holds on to the whole of a string that was handed in.
func joined(a, b string) string {
	bytes := []byte(a)
	bytes = append(bytes, b...)
	return string(bytes)
}
