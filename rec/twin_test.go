package rec

import (
	"encoding/binary"
	"hash/crc32"
	"slices"
	"testing"

	"treenail/api"
)

// The twin makes, judges and reads updates and records as the chapter says it, and shares nothing with the program but their types.

// errorOf: what Check answers, by each kind's own words.
func errorOf(u Update) api.Errno {
	if n := len(u.Key); n == 0 || n >= 17 {
		return 13
	}
	if len(u.Value) >= 33 {
		return 13
	}
	wrong := true
	switch u.Kind {
	case 1:
		wrong = u.Delta != 0
	case 2:
		wrong = u.Value != "" || u.Delta != 0
	case 3:
		wrong = u.Value != ""
	}
	if wrong {
		return 2
	}
	return 0
}

// bytesOf: what stands of an update, that needn't be one that may be.
func bytesOf(u Update) string {
	b := append([]byte{byte(u.Kind), byte(len(u.Key))}, u.Key...)
	if u.Kind == 1 {
		b = append(append(b, byte(len(u.Value))), u.Value...)
	}
	if u.Kind == 3 {
		b = binary.LittleEndian.AppendUint64(b, u.Delta)
	}
	return string(b)
}

func allBytesOf(l []Update) string {
	var b []byte
	for _, u := range l {
		b = append(b, bytesOf(u)...)
	}
	return string(b)
}

// recordBytes: a record's, with a count that needn't be right, and with any text behind it.
func recordBytes(seq uint64, chain uint32, count uint16, text string) string {
	b := binary.LittleEndian.AppendUint64(nil, seq)
	b = binary.LittleEndian.AppendUint32(b, chain)
	return string(binary.LittleEndian.AppendUint16(b, count)) + text
}

func bytesOfRecord(r Record) string {
	return recordBytes(r.Seq, r.Chain, uint16(len(r.Updates)), allBytesOf(r.Updates))
}

func checkOf(s string) uint32 {
	return crc32.Checksum([]byte(s), crc32.MakeTable(crc32.Castagnoli))
}

// reader goes through a text from its beginning; short from where more was asked for than there is.
type reader struct {
	s     string
	short bool
}

func (r *reader) take(n int) string {
	if n > len(r.s) {
		r.short = true
		n = len(r.s)
	}
	taken := r.s[:n]
	r.s = r.s[n:]
	return taken
}

func (r *reader) number(width int) uint64 {
	var n uint64
	for place, b := range []byte(r.take(width)) {
		n += uint64(b) << (8 * place)
	}
	return n
}

func (r *reader) text() string { return r.take(int(r.number(1))) }

func (r *reader) update() Update {
	u := Update{Kind: Kind(r.number(1)), Key: r.text()}
	if u.Kind == 1 {
		u.Value = r.text()
	}
	if u.Kind == 3 {
		u.Delta = r.number(8)
	}
	return u
}

// updates: all of the rest; false, if that isn't the bytes of updates that may be.
func (r *reader) updates() ([]Update, bool) {
	var l []Update
	for r.s != "" {
		u := r.update()
		if r.short || errorOf(u) != 0 {
			return nil, false
		}
		l = append(l, u)
	}
	return l, !r.short
}

func updatesOf(s string) ([]Update, bool) {
	r := reader{s: s}
	return r.updates()
}

func recordOf(s string) (Record, bool) {
	r := reader{s: s}
	told := Record{Seq: r.number(8), Chain: uint32(r.number(4))}
	count := int(r.number(2))
	l, ok := r.updates()
	if !ok || len(l) != count {
		return Record{}, false
	}
	told.Updates = l
	return told, true
}

func sameRecord(a, b Record) bool {
	return a.Seq == b.Seq && a.Chain == b.Chain && slices.Equal(a.Updates, b.Updates)
}

// parsesAsTheTwin: of any text; tells whether there are updates in it.
func parsesAsTheTwin(t *testing.T, s string) bool {
	t.Helper()
	want, ok := updatesOf(s)
	if ok {
		parses(t, s, want...)
	} else {
		refusesParse(t, s)
	}
	return ok
}

// opensAsTheTwin: of any text; tells whether there is a record in it.
func opensAsTheTwin(t *testing.T, s string) bool {
	t.Helper()
	want, ok := recordOf(s)
	if ok {
		opens(t, s, want)
	} else {
		refusesOpen(t, s)
	}
	return ok
}

// eachText calls a function with each text of so many bytes of some.
func eachText(of string, length int, call func(s string)) {
	if length == 0 {
		call("")
		return
	}
	eachText(of, length-1, func(s string) {
		for k := range len(of) {
			call(s + of[k:k+1])
		}
	})
}

// fewBytes: each kind and two that are none, lengths that may be and that may not, and a byte that's none of these.
const fewBytes = "\x00\x01\x02\x03\x04\x11\x21"

func TestParseOfEachShortText(t *testing.T) {
	parsed := 0
	for length := range 7 {
		eachText(fewBytes, length, func(s string) {
			if parsesAsTheTwin(t, s) {
				parsed++
			}
		})
	}
	if parsed < 1000 {
		t.Errorf("%d texts were updates: too few to tell", parsed)
	}
}

// TestParseOfEachShortTextBehindAnUpdate: of each kind, so that what stands behind one is looked at as if it stood alone.
func TestParseOfEachShortTextBehindAnUpdate(t *testing.T) {
	for _, u := range someUpdates() {
		for length := range 5 {
			eachText(fewBytes, length, func(s string) { parsesAsTheTwin(t, bytesOf(u)+s) })
		}
	}
}

func TestOpenOfEachShortTextBehindEachCount(t *testing.T) {
	opened := 0
	for count := range uint16(4) {
		for length := range 7 {
			eachText(fewBytes, length, func(s string) {
				if opensAsTheTwin(t, recordBytes(6, 7, count, s)) {
					opened++
				}
			})
		}
	}
	if opened < 1000 {
		t.Errorf("%d texts were records: too few to tell", opened)
	}
}

// walk is numbers that come one from the other.
type walk struct{ state uint64 }

func (w *walk) below(n int) int {
	w.state = w.state*6364136223846793005 + 1442695040888963407
	return int(w.state >> 33 % uint64(n))
}

func (w *walk) text(length int) string {
	b := make([]byte, length)
	for k := range b {
		b[k] = byte(w.below(256))
	}
	return string(b)
}

func (w *walk) number() uint64 {
	return uint64(w.below(1<<31))<<33 ^ uint64(w.below(1<<31))<<2 ^ uint64(w.below(4))
}

// update: one of which each part is as it may be, but perhaps not all together.
func (w *walk) update() Update {
	u := Update{Kind: Kind(1 + w.below(3)), Key: w.text(1 + w.below(16))}
	if u.Kind == Put || w.below(200) == 0 {
		u.Value = w.text(w.below(33))
	}
	if u.Kind == Add || w.below(200) == 0 {
		u.Delta = w.number()
	}
	return u
}

func (w *walk) record() Record {
	r := Record{Seq: w.number(), Chain: uint32(w.number())}
	for range w.below(20) {
		r.Updates = append(r.Updates, w.update())
	}
	return r
}

// TestWalkBesideTheTwin: records as they come, whole, and with one byte another one.
func TestWalkBesideTheTwin(t *testing.T) {
	w := walk{12}
	refused := 0
	for range 4000 {
		r := w.record()
		if at := slices.IndexFunc(r.Updates, func(u Update) bool { return errorOf(u) != 0 }); at >= 0 {
			refusesRecord(t, r, errorOf(r.Updates[at]))
			refused++
			continue
		}
		both(t, r)
		s := bytesOfRecord(r)
		for range 10 {
			other := turned(s, w.below(len(s)), byte(1+w.below(255)))
			opensAsTheTwin(t, other)
			parsesAsTheTwin(t, other[14:])
		}
	}
	if refused < 50 || refused > 2000 {
		t.Errorf("%d of 4000 records were refused: too few, or too many, to tell", refused)
	}
}
