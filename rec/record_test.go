package rec

import (
	"math"
	"slices"
	"strings"
	"testing"

	"treenail/api"
	"treenail/sum"
)

var (
	seqs   = []uint64{0, 1, 2, 255, 256, 65535, 65536, 1<<32 - 1, 1 << 32, 1<<63 - 1, 1 << 63, math.MaxUint64 - 1, math.MaxUint64}
	chains = []uint32{0, 1, 2, 255, 256, 65536, 1<<31 - 1, 1 << 31, math.MaxUint32 - 1, math.MaxUint32}
)

func payloads(t *testing.T, r Record, want string) {
	t.Helper()
	if s, e := r.Payload(); s != want || e != api.OK {
		t.Errorf("the Payload of %d, %d, %d updates: %q, %v, not %q", r.Seq, r.Chain, len(r.Updates), s, e, want)
	}
}

func links(t *testing.T, r Record, want uint32) {
	t.Helper()
	if n, e := r.Link(sum.Make()); n != want || e != api.OK {
		t.Errorf("the Link of %d, %d, %d updates: %x, %v, not %x", r.Seq, r.Chain, len(r.Updates), n, e, want)
	}
}

func opens(t *testing.T, s string, want Record) {
	t.Helper()
	if r, e := Open(s); !sameRecord(r, want) || e != api.OK {
		t.Errorf("Open(%.100q) = %d, %d, %d updates, %v; not %d, %d, %d", s, r.Seq, r.Chain, len(r.Updates), e, want.Seq, want.Chain, len(want.Updates))
	}
}

func refusesOpen(t *testing.T, s string) {
	t.Helper()
	if r, e := Open(s); r.Seq != 0 || r.Chain != 0 || len(r.Updates) != 0 || e != api.ErrForm {
		t.Errorf("Open(%.100q) = %d, %d, %d updates, %v", s, r.Seq, r.Chain, len(r.Updates), e)
	}
}

// refusesRecord: neither its Payload nor its Link is told.
func refusesRecord(t *testing.T, r Record, want api.Errno) {
	t.Helper()
	if s, e := r.Payload(); s != "" || e != want {
		t.Errorf("the Payload of %d updates: %d bytes, %v, not %v", len(r.Updates), len(s), e, want)
	}
	if n, e := r.Link(sum.Make()); n != 0 || e != want {
		t.Errorf("the Link of %d updates: %x, %v, not %v", len(r.Updates), n, e, want)
	}
	refusesNil(t, r)
}

func refusesNil(t *testing.T, r Record) {
	t.Helper()
	if n, e := r.Link(nil); n != 0 || e != api.ErrNil {
		t.Errorf("the Link of %d updates by a nil table: %x, %v", len(r.Updates), n, e)
	}
}

// both: a record and its bytes are made of one another, as are its updates and theirs; it links by the check of all.
func both(t *testing.T, r Record) {
	t.Helper()
	s := bytesOfRecord(r)
	payloads(t, r, s)
	opens(t, s, r)
	links(t, r, checkOf(s))
	texts(t, s[14:], r.Updates...)
	parses(t, s[14:], r.Updates...)
}

// someRecords: of few updates and of many.
func someRecords() []Record {
	return []Record{
		{},
		{Seq: 1, Chain: 2},
		{Seq: math.MaxUint64, Chain: math.MaxUint32},
		{5, 7, []Update{{Delete, "z", "", 0}}},
		{math.MaxUint64, math.MaxUint32, []Update{{Add, key16, "", math.MaxUint64}}},
		{0x0807060504030201, 0x0c0b0a09, someUpdates()},
		{9, 8, manyUpdates(40)},
	}
}

// P12.2: Payload.

// TestPayloadByteByByte: written out, so that it hangs on no maker here.
func TestPayloadByteByByte(t *testing.T) {
	for _, x := range []struct {
		s string
		r Record
	}{
		{"\x00\x00\x00\x00\x00\x00\x00\x00\x00\x00\x00\x00\x00\x00", Record{}},
		{"\x00\x00\x00\x00\x00\x00\x00\x00\x00\x00\x00\x00\x00\x00", Record{Updates: []Update{}}},
		{"\x01\x00\x00\x00\x00\x00\x00\x00\x02\x00\x00\x00\x00\x00", Record{1, 2, nil}},
		{"\xff\xff\xff\xff\xff\xff\xff\xff\xff\xff\xff\xff\x00\x00", Record{math.MaxUint64, math.MaxUint32, nil}},
		{"\x05\x00\x00\x00\x00\x00\x00\x00\x07\x00\x00\x00\x01\x00\x02\x01z", Record{5, 7, []Update{{Delete, "z", "", 0}}}},
		{
			"\x01\x02\x03\x04\x05\x06\x07\x08\x09\x0a\x0b\x0c\x03\x00" + "\x02\x01z" + "\x01\x01k\x01v" + "\x03\x01n\xff\xff\xff\xff\xff\xff\xff\xff",
			Record{0x0807060504030201, 0x0c0b0a09, []Update{{Delete, "z", "", 0}, {Put, "k", "v", 0}, {Add, "n", "", math.MaxUint64}}},
		},
		{
			"\x00\x00\x00\x00\x00\x00\x00\x80\x00\x00\x00\x80\x02\x01" + strings.Repeat("\x02\x01z", 258),
			Record{1 << 63, 1 << 31, slices.Repeat([]Update{{Delete, "z", "", 0}}, 258)},
		},
	} {
		payloads(t, x.r, x.s)
		opens(t, x.s, x.r)
	}
}

func TestPayloadOfEachNumber(t *testing.T) {
	for _, seq := range seqs {
		for _, chain := range chains {
			both(t, Record{seq, chain, nil})
			both(t, Record{seq, chain, someUpdates()})
		}
	}
	for bit := range 64 {
		both(t, Record{1 << bit, 1 << (bit % 32), someUpdates()[:2]})
		both(t, Record{math.MaxUint64 ^ 1<<bit, math.MaxUint32 ^ 1<<(bit%32), someUpdates()[2:]})
	}
}

func TestPayloadOfEachFewUpdates(t *testing.T) {
	for n := range 520 {
		both(t, Record{6, 7, manyUpdates(n)})
	}
}

func TestPayloadOfTheMostUpdates(t *testing.T) {
	for _, n := range []int{65280, 65534, 65535} {
		both(t, Record{6, 7, manyUpdates(n)})
	}
}

func TestPayloadOfTooManyUpdates(t *testing.T) {
	for _, n := range []int{65536, 65537, 65536 + 256, 131071, 131072, 200000} {
		refusesRecord(t, Record{6, 7, manyUpdates(n)}, api.ErrLong)
		refusesRecord(t, Record{math.MaxUint64, math.MaxUint32, manyUpdates(n)}, api.ErrLong)
	}
}

func TestPayloadOfUpdatesThatMayNotBe(t *testing.T) {
	for u, e := range notUpdates() {
		refusesRecord(t, Record{6, 7, []Update{u}}, e)
		for at := range 10 {
			refusesRecord(t, Record{6, 7, slices.Insert(someUpdates(), at, u)}, e)
		}
		for v := range notUpdates() {
			refusesRecord(t, Record{6, 7, []Update{u, v}}, e)
			refusesRecord(t, Record{6, 7, append(someUpdates(), u, v)}, e)
		}
	}
}

// TestPayloadTellsTextsErrorAheadOfErrLong: wherever the one that may not be stands, also behind the 65535th.
func TestPayloadTellsTextsErrorAheadOfErrLong(t *testing.T) {
	many := manyUpdates(65540)
	for u, e := range notUpdates() {
		for _, at := range []int{0, 65534, 65535, 65539} {
			was := many[at]
			many[at] = u
			refusesRecord(t, Record{6, 7, many}, e)
			many[at] = was
		}
	}
}

// TestPayloadOfAsManyAsMayBeOfWhichOneMayNot: and it isn't told, if it stands behind them.
func TestPayloadOfAsManyAsMayBeOfWhichOneMayNot(t *testing.T) {
	for _, at := range []int{0, 65534, 65535} {
		l := manyUpdates(65536)
		l[at] = Update{}
		refusesRecord(t, Record{6, 7, l}, api.ErrLarge)
		if at < 65535 {
			refusesRecord(t, Record{6, 7, l[:65535]}, api.ErrLarge)
		} else {
			both(t, Record{6, 7, l[:65535]})
		}
	}
}

// P12.2: Open.

func TestOpenOfEachPayload(t *testing.T) {
	for _, r := range someRecords() {
		both(t, r)
	}
}

// TestOpenOfEachBeginning: the count is of more than is there, so none is a record's.
func TestOpenOfEachBeginning(t *testing.T) {
	for _, r := range someRecords() {
		s := bytesOfRecord(r)
		for n := range len(s) {
			refusesOpen(t, s[:n])
		}
	}
}

func TestOpenOfEachByteTurned(t *testing.T) {
	for _, r := range someRecords()[:6] {
		s := bytesOfRecord(r)
		for at := range s {
			for by := 1; by < 256; by++ {
				if ok := opensAsTheTwin(t, turned(s, at, byte(by))); ok != (at < 12) && at < 14 {
					t.Errorf("the byte %d of %q turned by %d: opens is %v", at, s, by, ok)
				}
			}
		}
	}
}

// TestOpenOfWrongCounts: one too large, one too small, and by more.
func TestOpenOfWrongCounts(t *testing.T) {
	for _, n := range []int{0, 1, 2, 3, 255, 256, 257, 65534, 65535} {
		l := manyUpdates(n)
		s := allBytesOf(l)
		for _, by := range []int{-256, -2, -1, 0, 1, 2, 256} {
			count := n + by
			if count < 0 || count > 65535 {
				continue
			}
			if told := recordBytes(6, 7, uint16(count), s); by == 0 {
				opens(t, told, Record{6, 7, l})
			} else {
				refusesOpen(t, told)
			}
		}
	}
	few := allBytesOf(someUpdates())
	for count := range 65536 {
		if count != 9 {
			refusesOpen(t, recordBytes(6, 7, uint16(count), few))
		}
	}
}

// TestOpenOfMoreUpdatesThanACountTells: as many as come out even in its two bytes.
func TestOpenOfMoreUpdatesThanACountTells(t *testing.T) {
	for _, n := range []int{65536, 65537, 65536 + 9, 131072} {
		s := allBytesOf(manyUpdates(n))
		for _, count := range []uint16{uint16(n), 65535} {
			refusesOpen(t, recordBytes(6, 7, count, s))
		}
	}
}

func TestOpenOfBytesBehindTheEnd(t *testing.T) {
	for _, r := range someRecords() {
		s := bytesOfRecord(r)
		for b := range 256 {
			refusesOpen(t, s+string([]byte{byte(b)}))
		}
		for _, u := range someUpdates() {
			refusesOpen(t, s+bytesOf(u))
		}
		for n := range 40 {
			refusesOpen(t, s+noughts(n+1))
		}
		refusesOpen(t, s+s)
	}
}

func TestOpenOfUpdatesThatMayNotBe(t *testing.T) {
	for _, s := range []string{"\x01", "\x01\x01a", "\x04\x01a", "\x00\x01a", "\x02\x00", "\x03\x01a\x01", "\x02\x11" + key16 + "k", "\x01\x01a\x21" + value32 + "v"} {
		refusesOpen(t, recordBytes(6, 7, 1, s))
		refusesOpen(t, recordBytes(6, 7, 2, "\x02\x01a"+s))
		refusesOpen(t, recordBytes(6, 7, 2, s+"\x02\x01a"))
		refusesOpen(t, recordBytes(6, 7, 0, s))
	}
}

// TestOpenOfTextsThatAreNone: shorter than a record's numbers, and of one byte again and again.
func TestOpenOfTextsThatAreNone(t *testing.T) {
	refusesOpen(t, "")
	refusesOpen(t, "record")
	for b := range 256 {
		for n := range 80 {
			opensAsTheTwin(t, strings.Repeat(string([]byte{byte(b)}), n))
		}
	}
	opens(t, noughts(14), Record{})
	refusesOpen(t, noughts(13))
	refusesOpen(t, noughts(15))
}

// P12.2: Link.

// TestLinkIsTheCheckOfAllTheBytes: written out, with checks that were reckoned elsewhere, so that they hang on no reckoning here.
func TestLinkIsTheCheckOfAllTheBytes(t *testing.T) {
	links(t, Record{}, 0x766b37f1)
	links(t, Record{5, 7, []Update{{Delete, "z", "", 0}}}, 0x46b06fc2)
	links(t, Record{math.MaxUint64, math.MaxUint32, []Update{{Add, "n", "", math.MaxUint64}}}, 0xd8051c4e)
}

// TestLinkHangsOnEachPart: no two of these link by the same.
func TestLinkHangsOnEachPart(t *testing.T) {
	seen := map[uint32]Record{}
	all := []Record{
		{5, 7, nil},
		{4, 7, nil},
		{5, 6, nil},
		{5, 7, []Update{{Delete, "z", "", 0}}},
		{5, 7, []Update{{Delete, "y", "", 0}}},
		{5, 7, []Update{{Put, "z", "", 0}}},
		{5, 7, []Update{{Put, "z", "v", 0}}},
		{5, 7, []Update{{Add, "z", "", 0}}},
		{5, 7, []Update{{Add, "z", "", 1}}},
		{5, 7, []Update{{Delete, "z", "", 0}, {Delete, "y", "", 0}}},
		{5, 7, []Update{{Delete, "y", "", 0}, {Delete, "z", "", 0}}},
	}
	for _, r := range all {
		n, e := r.Link(sum.Make())
		if other, ok := seen[n]; ok || e != api.OK {
			t.Errorf("%v links by %x, %v, as %v does", r, n, e, other)
		}
		seen[n] = r
	}
}

func TestLinkOfANilTable(t *testing.T) {
	for _, r := range someRecords() {
		refusesNil(t, r)
	}
	many := manyUpdates(65537)
	refusesNil(t, Record{6, 7, many})
	for u := range notUpdates() {
		refusesNil(t, Record{6, 7, []Update{u}})
		many[65536] = u
		refusesNil(t, Record{6, 7, many})
	}
}

// TestLinksOfAChain: each record has what the one ahead links by, and is held against it.
func TestLinksOfAChain(t *testing.T) {
	table := sum.Make()
	chain := uint32(0)
	for seq := range uint64(100) {
		r := Record{seq, chain, manyUpdates(int(seq % 7))}
		both(t, r)
		link, e := r.Link(table)
		if e != api.OK {
			t.Fatalf("the record %d: %v", seq, e)
		}
		chain = link
	}
}

// P12.3: Open of Payload.

func TestOpenOfPayloadIsTheRecord(t *testing.T) {
	for _, n := range []int{0, 1, 2, 3, 100, 65534, 65535} {
		for _, r := range []Record{{0, 0, manyUpdates(n)}, {math.MaxUint64, math.MaxUint32, manyUpdates(n)}} {
			s, e := r.Payload()
			if e != api.OK {
				t.Fatalf("the Payload of %d updates: %v", n, e)
			}
			opens(t, s, r)
		}
	}
}
