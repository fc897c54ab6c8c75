package foreman_test

import (
	"fmt"
	"math/rand"
	"slices"
	"strings"
	"testing"

	"foreman/api"
	"foreman/foreman"
)

func checkDecode(t *testing.T, s string, list []api.Record, n int, e api.Errno) {
	t.Helper()
	gotList, gotN, gotE := foreman.Decode(s)
	if !slices.Equal(gotList, list) || gotN != n || gotE != e {
		t.Fatalf("P4: Decode(%.60q) = %s, %d, %d, want %s, %d, %d", s, shown(gotList), gotN, gotE, shown(list), n, e)
	}
}

// shown keeps a failure readable: contents are any bytes, and lists may be long.
func shown(list []api.Record) string {
	return fmt.Sprintf("%d records %.200s", len(list), fmt.Sprintf("%#v", list))
}

// sample: records of all kinds with paddings, contents and paddings that look like heads among them.
func sample() ([]api.Record, []string) {
	list := []api.Record{
		{Kind: api.Begin, Id: 1, Content: "\x01"},
		{Kind: api.In, Id: 65535, Content: strings.Repeat("y", api.MaxContent)},
		{Kind: api.Abort, Id: 256},
		{Kind: api.Out, Id: 7, Content: "\x02\x00\x00\x00\x00\x00\x00\x00"},
		{Kind: api.End, Id: 255, Content: "\x01\x05\x00\x01\x00\x00\x00\x00"},
		{Kind: api.In, Id: 9},
	}
	paddings := []string{"", "\x00\xff\x01\x01\x00\x01\x00", "\x01", "\x02\x02\x02", "", "\x01\x04\x00\x00\xff\xff\xff"}
	var parts []string
	for i, r := range list {
		parts = append(parts, written(r.Kind, r.Id, r.Content, paddings[i]))
	}
	return list, parts
}

func TestDecodeExamples(t *testing.T) {
	checkDecode(t, "\x01\x05\x00\x07\x00\x02\x03\x00abxyz\x01\x05\x00", []api.Record{{Kind: api.In, Id: 7, Content: "ab"}}, 13, api.OK)
	checkDecode(t, "\x02", nil, 0, api.OK)
	checkDecode(t, "\x02\x00\x00\x00\x00\x00\x00\x00", nil, 0, api.ErrRecord)
}

func TestDecodeNothing(t *testing.T) {
	checkDecode(t, "", nil, 0, api.OK)
}

func TestDecodeOneRecord(t *testing.T) {
	for _, kind := range kinds {
		for _, id := range []int{1, 255, 256, 258, 65535} {
			for _, length := range []int{0, 1, 2, 199, api.MaxContent} {
				for pad := 0; pad <= api.MaxPad; pad++ {
					content := strings.Repeat("c", length)
					s := written(kind, id, content, strings.Repeat("p", pad))
					checkDecode(t, s, []api.Record{{Kind: kind, Id: id, Content: content}}, 8+length+pad, api.OK)
				}
			}
		}
	}
}

func TestDecodeEveryCut(t *testing.T) {
	list, parts := sample()
	s := strings.Join(parts, "")
	whole, n := 0, 0
	for cut := 0; cut <= len(s); cut++ {
		if whole < len(parts) && cut == n+len(parts[whole]) {
			n += len(parts[whole])
			whole++
		}
		checkDecode(t, s[:cut], list[:whole], n, api.OK)
	}
	if whole != len(list) {
		t.Fatalf("only %d records stood whole in all of the bytes", whole)
	}
}

// badHeads: one for each way in which a head is bad, all else in it being good, and some with several.
func badHeads() []string {
	return []string{
		"\x00\x05\x00\x01\x00\x00\x00\x00",
		"\x02\x05\x00\x01\x00\x00\x00\x00",
		"\xff\x05\x00\x01\x00\x00\x00\x00",
		"\x01\x00\x00\x01\x00\x00\x00\x00",
		"\x01\x04\x00\x01\x00\x00\x00\x00",
		"\x01\x07\x00\x01\x00\x00\x00\x00",
		"\x01\xff\x00\x01\x00\x00\x00\x00",
		"\x01\x05\x00\x00\x00\x00\x00\x00",
		"\x01\x05\x00\x01\x00\xc9\x00\x00",
		"\x01\x05\x00\x01\x01\x00\x00\x00",
		"\x01\x05\x00\x01\xff\xff\x00\x00",
		"\x01\x05\x00\x01\x00\x00\x08\x00",
		"\x01\x05\x00\x01\x00\x00\xff\x00",
		"\x01\x05\x00\x01\x00\x00\x00\x01",
		"\x01\x05\x00\x01\x00\x00\x00\xff",
		"\x00\x00\x00\x00\x00\x00\x00\x00",
		"\xff\xff\xff\xff\xff\xff\xff\xff",
	}
}

func TestDecodeBadHeads(t *testing.T) {
	list, parts := sample()
	before := strings.Join(parts, "")
	for _, head := range badHeads() {
		checkDecode(t, head[:7], nil, 0, api.OK)
		checkDecode(t, head, nil, 0, api.ErrRecord)
		checkDecode(t, head+strings.Repeat("c", 300), nil, 0, api.ErrRecord)
		checkDecode(t, before+head[:7], list, len(before), api.OK)
		checkDecode(t, before+head, list, len(before), api.ErrRecord)
		checkDecode(t, before+head+before, list, len(before), api.ErrRecord)
		checkDecode(t, parts[0]+head+parts[0], list[:1], len(parts[0]), api.ErrRecord)
	}
}

func TestDecodeBadHeadInsideARecordIsNone(t *testing.T) {
	for _, head := range badHeads() {
		checkDecode(t, written(api.In, 5, head, "")+"\x01", []api.Record{{Kind: api.In, Id: 5, Content: head}}, 16, api.OK)
		checkDecode(t, written(api.In, 5, "", head[:7]), []api.Record{{Kind: api.In, Id: 5}}, 15, api.OK)
	}
}

// TestDecodeEachByteOfAHead puts each value into each byte of a good head that has Id 257, no Content, no padding.
func TestDecodeEachByteOfAHead(t *testing.T) {
	good := "\x01\x05\x01\x01\x00\x00\x00\x00"
	rest := strings.Repeat("r", 7) // so short that of each greater length or padding nothing is whole
	mayStand := []func(b int) bool{
		func(b int) bool { return b == 1 },
		func(b int) bool { return b == 1 || b == 2 || b == 3 || b == 5 || b == 6 },
		func(b int) bool { return true },
		func(b int) bool { return true },
		func(b int) bool { return b == 0 },
		func(b int) bool { return b <= 200 },
		func(b int) bool { return b <= 7 },
		func(b int) bool { return b == 0 },
	}
	for at, may := range mayStand {
		for b := range 256 {
			s := good[:at] + string([]byte{byte(b)}) + good[at+1:] + rest
			want := api.OK
			if !may(b) {
				want = api.ErrRecord
			}
			l, n, e := foreman.Decode(s)
			if e != want || (e != api.OK && (len(l) != 0 || n != 0)) {
				t.Fatalf("P4: with the byte %d at %d Decode = %s, %d, %d, want the error %d", b, at, shown(l), n, e, want)
			}
		}
	}
}

func TestDecodeEveryId(t *testing.T) {
	checkDecode(t, written(api.In, 0, "x", ""), nil, 0, api.ErrRecord)
	for id := 1; id <= 65535; id++ {
		checkDecode(t, written(api.In, id, "x", ""), []api.Record{{Kind: api.In, Id: id, Content: "x"}}, 9, api.OK)
	}
}

func TestDecodeEveryLength(t *testing.T) {
	for length := 0; length <= 65535; length++ {
		head := string([]byte{1, api.Out, 0, 1, byte(length >> 8), byte(length), 0, 0})
		if length > api.MaxContent {
			checkDecode(t, head, nil, 0, api.ErrRecord)
			continue
		}
		content := strings.Repeat("c", length)
		checkDecode(t, head+content, []api.Record{{Kind: api.Out, Id: 1, Content: content}}, 8+length, api.OK)
	}
}

func TestDecodeWhatEncodeWrote(t *testing.T) {
	list, _ := sample()
	s := ""
	for _, r := range list {
		b, e := foreman.Encode(r)
		if e != api.OK {
			t.Fatalf("P3: Encode(Kind %d, Id %d, %d bytes): %d", r.Kind, r.Id, len(r.Content), e)
		}
		s += b
	}
	checkDecode(t, s, list, len(s), api.OK)
}

func TestDecodeManyRecords(t *testing.T) {
	const many = 50000
	list := make([]api.Record, many)
	for i := range list {
		list[i] = api.Record{Kind: api.In, Id: i + 1, Content: "m"}
	}
	var b strings.Builder
	for _, r := range list {
		b.WriteString(written(r.Kind, r.Id, r.Content, "pp"))
	}
	checkDecode(t, b.String(), list, many*11, api.OK)
}

// plainDecode reads the document once more, byte by byte, as something to hold Decode against.
func plainDecode(s string) ([]api.Record, int, api.Errno) {
	var list []api.Record
	n := 0
	for {
		left := s[n:]
		if len(left) < 8 {
			return list, n, api.OK
		}
		id := int(left[2])<<8 | int(left[3])
		length := int(left[4])<<8 | int(left[5])
		if left[0] != 1 || !slices.Contains(kinds, int(left[1])) || id == 0 || length > 200 || left[6] > 7 || left[7] != 0 {
			return list, n, api.ErrRecord
		}
		if len(left) < 8+length+int(left[6]) {
			return list, n, api.OK
		}
		list = append(list, api.Record{Kind: int(left[1]), Id: id, Content: left[8 : 8+length]})
		n += 8 + length + int(left[6])
	}
}

// TestDecodeAnyBytes changes, cuts and joins records by a fixed seed, and also feeds noise (P1: at all strings).
func TestDecodeAnyBytes(t *testing.T) {
	random := rand.New(rand.NewSource(1))
	_, parts := sample()
	for range 30000 {
		var b []byte
		for range random.Intn(6) {
			b = append(b, parts[random.Intn(len(parts))]...)
		}
		for range random.Intn(3) {
			if len(b) > 0 {
				b[random.Intn(len(b))] = byte(random.Intn(12))
			}
		}
		for range random.Intn(12) {
			b = append(b, byte(random.Intn(256)))
		}
		s := string(b[:len(b)-random.Intn(1+len(b)/4)])
		list, n, e := plainDecode(s)
		checkDecode(t, s, list, n, e)
	}
}

// overwrite writes into all of a list, its spare room too.
func overwrite(list []api.Record) {
	room := list[:cap(list)]
	for i := range room {
		room[i] = api.Record{Kind: -1, Id: -1, Content: "written over"}
	}
}

func TestDecodeListsAreFresh(t *testing.T) {
	want, parts := sample()
	for whole := 0; whole <= len(parts); whole++ {
		for _, tail := range []string{"", "\x01\x05", "\x02\x00\x00\x00\x00\x00\x00\x00"} {
			s := strings.Join(parts[:whole], "") + tail
			_, n, e := foreman.Decode(s)
			before, _, _ := foreman.Decode(s)
			spoilt, _, _ := foreman.Decode(s)
			after, _, _ := foreman.Decode(s)
			overwrite(spoilt)
			spoilt = append(spoilt, api.Record{Kind: -2})
			if !slices.Equal(before, want[:whole]) || !slices.Equal(after, want[:whole]) {
				t.Fatalf("P2: writing over one list changed another: %s, %s", shown(before), shown(after))
			}
			checkDecode(t, s, want[:whole], n, e)
			overwrite(spoilt)
			checkDecode(t, s, want[:whole], n, e)
		}
	}
}

func TestDecodeListsOutliveLaterCalls(t *testing.T) {
	want, parts := sample()
	kept, _, _ := foreman.Decode(strings.Join(parts, ""))
	for range 20 {
		foreman.Decode(written(api.Out, 77, "later", ""))
		foreman.Encode(api.Record{Kind: api.Out, Id: 78, Content: "later"})
	}
	if !slices.Equal(kept, want) {
		t.Errorf("P2: a list that came out was changed by later calls: %s", shown(kept))
	}
}
