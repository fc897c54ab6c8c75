package foreman_test

import (
	"math"
	"strings"
	"testing"

	"foreman/api"
	"foreman/foreman"
)

var kinds = []int{api.Begin, api.Abort, api.End, api.In, api.Out}

// written lays out a record's bytes from the document's words alone, so that Encode and Decode are not
// tested against each other only.
func written(kind, id int, content, padding string) string {
	var b strings.Builder
	for _, n := range []int{1, kind, id >> 8, id & 255, len(content) >> 8, len(content) & 255, len(padding), 0} {
		b.WriteByte(byte(n))
	}
	return b.String() + content + padding
}

func checkEncode(t *testing.T, r api.Record, want string) {
	t.Helper()
	if s, e := foreman.Encode(r); s != want || e != api.OK {
		t.Fatalf("P3: Encode(Kind %d, Id %d, %d bytes) = %.40q, %d, want %.40q, OK", r.Kind, r.Id, len(r.Content), s, e, want)
	}
}

func checkEncodeRefuses(t *testing.T, r api.Record) {
	t.Helper()
	if s, e := foreman.Encode(r); s != "" || e != api.ErrRecord {
		t.Fatalf("P3, P1: Encode(Kind %d, Id %d, %d bytes) = %.40q, %d, want nothing, ErrRecord", r.Kind, r.Id, len(r.Content), s, e)
	}
}

func TestEncodeExample(t *testing.T) {
	checkEncode(t, api.Record{Kind: api.Begin, Id: 258, Content: "\x01"}, "\x01\x01\x01\x02\x00\x01\x00\x00\x01")
	checkEncodeRefuses(t, api.Record{Kind: api.In, Id: 0, Content: "a"})
	checkEncodeRefuses(t, api.Record{Kind: 4, Id: 1, Content: "a"})
	checkEncodeRefuses(t, api.Record{Kind: api.In, Id: 1, Content: strings.Repeat("a", 201)})
}

func TestEncodeByHand(t *testing.T) {
	checkEncode(t, api.Record{Kind: api.End, Id: 1}, "\x01\x03\x00\x01\x00\x00\x00\x00")
	checkEncode(t, api.Record{Kind: api.Abort, Id: 65535}, "\x01\x02\xff\xff\x00\x00\x00\x00")
	checkEncode(t, api.Record{Kind: api.In, Id: 256, Content: "hi"}, "\x01\x05\x01\x00\x00\x02\x00\x00hi")
	full := strings.Repeat("z", 200)
	checkEncode(t, api.Record{Kind: api.Out, Id: 255, Content: full}, "\x01\x06\x00\xff\x00\xc8\x00\x00"+full)
}

func TestEncodeEveryKindAndLength(t *testing.T) {
	for _, kind := range kinds {
		for _, id := range []int{1, 2, 127, 128, 255, 256, 257, 32767, 32768, 65280, 65534, 65535} {
			for length := 0; length <= api.MaxContent; length++ {
				content := strings.Repeat("c", length)
				checkEncode(t, api.Record{Kind: kind, Id: id, Content: content}, written(kind, id, content, ""))
			}
		}
	}
}

func TestEncodeEveryId(t *testing.T) {
	for id := 1; id <= 65535; id++ {
		checkEncode(t, api.Record{Kind: api.In, Id: id, Content: "x"}, written(api.In, id, "x", ""))
	}
}

func TestEncodeContentOfAnyBytes(t *testing.T) {
	for b := range 256 {
		content := string([]byte{byte(b), 0, byte(b)})
		checkEncode(t, api.Record{Kind: api.Out, Id: 3, Content: content}, written(api.Out, 3, content, ""))
	}
}

func TestEncodeRefusesKinds(t *testing.T) {
	allowed := map[int]bool{1: true, 2: true, 3: true, 5: true, 6: true}
	for kind := -600; kind <= 600; kind++ {
		if !allowed[kind] {
			checkEncodeRefuses(t, api.Record{Kind: kind, Id: 1})
		}
	}
	for _, kind := range []int{math.MinInt, math.MinInt + 1, 1<<32 + 1, 1<<16 + 5, math.MaxInt} {
		checkEncodeRefuses(t, api.Record{Kind: kind, Id: 1})
	}
}

func TestEncodeRefusesIds(t *testing.T) {
	for _, id := range []int{math.MinInt, -65536, -65535, -1, 0, 65536, 65537, 1<<17 + 1, 1<<32 + 1, math.MaxInt} {
		for _, kind := range kinds {
			checkEncodeRefuses(t, api.Record{Kind: kind, Id: id})
		}
	}
}

func TestEncodeRefusesContents(t *testing.T) {
	for _, length := range []int{api.MaxContent + 1, 255, 256, 257, 65535, 65536, 65537, 1 << 20} {
		for _, kind := range kinds {
			checkEncodeRefuses(t, api.Record{Kind: kind, Id: 1, Content: strings.Repeat("c", length)})
		}
	}
}

func TestEncodeRefusesAllAtOnce(t *testing.T) {
	checkEncodeRefuses(t, api.Record{})
	checkEncodeRefuses(t, api.Record{Kind: -1, Id: -1, Content: strings.Repeat("c", 201)})
}
