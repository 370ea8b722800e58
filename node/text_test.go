package node

import (
	"encoding/binary"
	"math"
	"slices"
	"strings"
	"testing"

	"treenail/api"
	"treenail/buf"
	"treenail/env"
	"treenail/rec"
)

// textOf: the bytes of a node, by other means than those of the layers below; also of one that may not be, if what it has fits.
func textOf(n Node) string {
	b := []byte{byte(len(n.Children))}
	for _, c := range n.Children {
		b = append(b, byte(len(c.Low)))
		b = append(b, c.Low...)
		b = binary.LittleEndian.AppendUint32(b, uint32(c.Ptr.Addr))
		b = binary.LittleEndian.AppendUint64(b, c.Ptr.Gen)
		b = binary.LittleEndian.AppendUint32(b, c.Ptr.Sum)
	}
	return string(b) + messagesText(n.Buffer.List())
}

func messagesText(l []rec.Update) string {
	var b []byte
	for _, u := range l {
		b = append(b, byte(u.Kind), byte(len(u.Key)))
		b = append(b, u.Key...)
		switch u.Kind {
		case rec.Put:
			b = append(b, byte(len(u.Value)))
			b = append(b, u.Value...)
		case rec.Add:
			b = binary.LittleEndian.AppendUint64(b, u.Delta)
		}
	}
	return string(b)
}

// reader goes through bytes from the front on, by other means than those of the layers below; behind what isn't there it is wrong.
type reader struct {
	left  string
	wrong bool
}

func (r *reader) take(count int) string {
	if r.wrong || count > len(r.left) {
		r.wrong = true
		return strings.Repeat("\x00", count)
	}
	s := r.left[:count]
	r.left = r.left[count:]
	return s
}

func (r *reader) small() int { return int(r.take(1)[0]) }

func (r *reader) large(count int) uint64 {
	return binary.LittleEndian.Uint64([]byte(r.take(count) + "\x00\x00\x00\x00\x00\x00\x00\x00")[:8])
}

func (r *reader) update() rec.Update {
	u := rec.Update{Kind: rec.Kind(r.small())}
	u.Key = r.take(r.small())
	switch u.Kind {
	case 1:
		u.Value = r.take(r.small())
	case 2:
	case 3:
		u.Delta = r.large(8)
	default:
		r.wrong = true
	}
	r.wrong = r.wrong || u.Key == "" || len(u.Key) > 16 || len(u.Value) > 32
	return u
}

// nodeOf: the children and the messages of bytes that are a node's.
func nodeOf(s string) ([]Child, []rec.Update, bool) {
	r := &reader{left: s}
	var children []Child
	for count := r.small(); len(children) < count && !r.wrong; {
		c := Child{Low: r.take(r.small())}
		c.Ptr = env.Ptr{Addr: int(r.large(4)), Gen: r.large(8), Sum: uint32(r.large(4))}
		rises := len(children) == 0 && c.Low == "" || len(children) > 0 && strings.Compare(children[len(children)-1].Low, c.Low) == -1
		r.wrong = r.wrong || !rises || len(c.Low) > 16 || c.Ptr.Addr >= 1<<31
		children = append(children, c)
	}
	var messages []rec.Update
	for r.left != "" && !r.wrong {
		u := r.update()
		r.wrong = r.wrong || len(messages) > 0 && strings.Compare(messages[len(messages)-1].Key, u.Key) != -1
		messages = append(messages, u)
	}
	return children, messages, !r.wrong && 1 <= len(children) && len(children) <= 16 && len(messages) <= 64
}

func refusesParse(t *testing.T, s string) {
	t.Helper()
	n, e := Parse(s)
	if e != api.ErrForm {
		t.Errorf("Parse(%q): %v", s, e)
	}
	if len(n.Children) != 0 || n.Buffer.Len() != 0 || len(n.Buffer.List()) != 0 {
		t.Errorf("Parse(%q): %v, %v", s, n.Children, n.Buffer.List())
	}
}

func parses(t *testing.T, s string, want Node) {
	t.Helper()
	n, e := Parse(s)
	if e != api.OK || !alike(n, want) {
		t.Errorf("Parse(%q): %v, %v, %v, not %v, %v", s, n.Children, n.Buffer.List(), e, want.Children, want.Buffer.List())
	}
	if !n.Right() {
		t.Errorf("Parse(%q) may not be", s)
	}
	if again, e := n.Text(); again != s || e != api.OK {
		t.Errorf("%q, %v, not %q", again, e, s)
	}
}

// parsesAsTheTwin: a text is what other means read in it.
func parsesAsTheTwin(t *testing.T, s string) bool {
	t.Helper()
	children, messages, right := nodeOf(s)
	if right {
		parses(t, s, Node{children, bufferOf(t, messages...)})
	} else {
		refusesParse(t, s)
	}
	return right
}

// changed: with another byte at a place.
func changed(s string, at int, to byte) string { return s[:at] + string([]byte{to}) + s[at+1:] }

// P17.2: Text.

func TestTextOfSome(t *testing.T) {
	noughts := strings.Repeat("\x00", 16)
	numbers := env.Ptr{Addr: 0x01020304, Gen: 0x05060708090a0b0c, Sum: 0x0d0e0f10}
	greatest := env.Ptr{Addr: greatestAddr, Gen: math.MaxUint64, Sum: math.MaxUint32}
	low := strings.Repeat("k", 16)
	for _, x := range []struct {
		n    Node
		want string
	}{
		{Node{Children: make([]Child, 1)}, "\x01\x00" + noughts},
		{Node{Children: []Child{{"", numbers}}}, "\x01\x00\x04\x03\x02\x01\x0c\x0b\x0a\x09\x08\x07\x06\x05\x10\x0f\x0e\x0d"},
		{Node{Children: []Child{{"", greatest}}}, "\x01\x00\xff\xff\xff\x7f" + strings.Repeat("\xff", 12)},
		{Node{Children: []Child{{}, {Low: "m"}}}, "\x02\x00" + noughts + "\x01m" + noughts},
		{Node{Children: []Child{{}, {Low: "\x00"}, {low, env.Ptr{Sum: 1}}}}, "\x03\x00" + noughts + "\x01\x00" + noughts + "\x10" + low + noughts[:12] + "\x01\x00\x00\x00"},
		{Node{make([]Child, 1), bufferOf(t, deletes("q"))}, "\x01\x00" + noughts + "\x02\x01q"},
		{
			Node{[]Child{{}, {Low: "m"}}, bufferOf(t, put("a", "bc"), add("n", 5), put("\xff", ""))},
			"\x02\x00" + noughts + "\x01m" + noughts + "\x01\x01a\x02bc\x03\x01n\x05\x00\x00\x00\x00\x00\x00\x00\x01\x01\xff\x00",
		},
	} {
		if s, e := x.n.Text(); s != x.want || e != api.OK {
			t.Errorf("%v: %q, %v", x.n, s, e)
		}
		isWithAll(t, x.n, true)
	}
}

// TestTextOfEachByte: of Ptr's three numbers.
func TestTextOfEachByte(t *testing.T) {
	for place := range 16 {
		for value := range 256 {
			var b [16]byte
			b[place] = byte(value)
			ptr := env.Ptr{
				Addr: int(binary.LittleEndian.Uint32(b[:4])),
				Gen:  binary.LittleEndian.Uint64(b[4:12]),
				Sum:  binary.LittleEndian.Uint32(b[12:]),
			}
			n := ofLows("", "m")
			n.Children[1].Ptr = ptr
			if place == 3 && value > 127 {
				isWithAll(t, n, false)
				continue
			}
			isWithAll(t, n, true)
			if s, _ := n.Text(); s[len(s)-16:] != string(b[:]) {
				t.Errorf("%v: %q", ptr, s)
			}
		}
	}
}

// TestTextOfMany: of each count of children and of messages that may be.
func TestTextOfMany(t *testing.T) {
	for children := 1; children <= 16; children++ {
		for messages := range 65 {
			isWithAll(t, Node{childrenOf(manyLows(children)...), bufferOf(t, updatesOf(manyKeys(messages)...)...)}, true)
		}
	}
}

// TestTextOfTheLongest: node that may be.
func TestTextOfTheLongest(t *testing.T) {
	n := Node{Children: make([]Child, 1)}
	for k := range 15 {
		n.Children = append(n.Children, Child{Low: "abcdefghijklmno"[k:k+1] + strings.Repeat("\xff", 15)})
	}
	for k := range 64 {
		n.Buffer = n.Buffer.With(put(string([]byte{byte(k)})+strings.Repeat("\xff", 15), strings.Repeat("\xff", 32)))
	}
	isWithAll(t, n, true)
	if s, _ := n.Text(); len(s) != 1+17+15*33+64*51 {
		t.Errorf("%d", len(s))
	}
}

// TestTextOfNodesThatMayNotBe: ErrArg, and no text.
func TestTextOfNodesThatMayNotBe(t *testing.T) {
	for _, n := range noNodes() {
		if s, e := n.Text(); s != "" || e != api.ErrArg {
			t.Errorf("of %v, %v: %q, %v", n.Children, n.Buffer.List(), s, e)
		}
	}
}

// P17.2: Parse.

func TestParseOfSome(t *testing.T) {
	for _, n := range some(t) {
		parses(t, textOf(n), n)
	}
}

func TestParseRefuses(t *testing.T) {
	noughts := strings.Repeat("\x00", 16)
	for _, s := range []string{
		"", "\x00", "\x01", "\x02", "\x10", "\x11", "\xff",
		"\x00\x00" + noughts, "\x00\x02\x01a",
		"\x01\x00", "\x01\x00" + noughts[:15], "\x01" + noughts, "\x01\x01" + noughts, "\x01\x01" + noughts[:15],
		"\x01\x01\x00" + noughts, "\x01\x01a" + noughts, "\x01\x02a" + noughts, "\x01\xff" + noughts,
		"\x02\x00" + noughts, "\x02\x00" + noughts + "\x00" + noughts, "\x02\x00" + noughts + "\x01m" + noughts[:15],
		"\x02\x00" + noughts + "\x01", "\x02\x00" + noughts + "\x11" + strings.Repeat("k", 17) + noughts,
		"\x02\x00" + noughts + "\xff" + strings.Repeat("k", 255) + noughts,
		"\x02\x00" + noughts + "\xff" + strings.Repeat("k", 254),
		"\x01\x00\x00\x00\x00\x80" + noughts[:12], "\x01\x00\xff\xff\xff\xff" + noughts[:12],
		"\x01\x00" + noughts + "\x00", "\x01\x00" + noughts + noughts, "\x01\x00" + noughts + "\x01m" + noughts,
		strings.Repeat("\x00", 1000), strings.Repeat("\x01", 1000), strings.Repeat("x", 1000), strings.Repeat("\xff", 10000),
	} {
		if parsesAsTheTwin(t, s) {
			t.Errorf("%q is a node's, to the twin", s)
		}
	}
}

// TestParseOfEachCount: of children that there are, and of others.
func TestParseOfEachCount(t *testing.T) {
	for there := range 20 {
		for _, messages := range []string{"", "\x02\x01a", "\x01\x01a\x01v\x02\x01b"} {
			s := textOf(ofLows(manyLows(there)...)) + messages
			for count := range 256 {
				right := parsesAsTheTwin(t, changed(s, 0, byte(count)))
				if right != (count == there && 1 <= there && there <= 16) {
					t.Errorf("%d of %d, and %q: %v", count, there, messages, right)
				}
			}
		}
	}
	for _, count := range []int{255, 256, 257, 256 + 16} { // of which the lowest eight bits are told
		refusesParse(t, textOf(ofLows(manyLows(count)...)))
	}
}

// TestParseOfEachAddr: at each place.
func TestParseOfEachAddr(t *testing.T) {
	for addr, right := range map[int]bool{
		0: true, 1: true, 1<<31 - 2: true, greatestAddr: true,
		1 << 31: false, 1<<31 + 1: false, 1<<32 - 2: false, 1<<32 - 1: false,
	} {
		for at := range 16 {
			n := ofLows(manyLows(16)...)
			n.Buffer = bufferOf(t, deletes("q"))
			n.Children[at].Ptr.Addr = addr
			isWithAll(t, n, right)
		}
	}
}

// TestParseOfOtherBytesOfABuffer: those that layer 15 refuses, too, behind children that may be.
func TestParseOfOtherBytesOfABuffer(t *testing.T) {
	for _, lows := range [][]string{{""}, {"", "m"}, manyLows(16)} {
		children := textOf(ofLows(lows...))
		for _, s := range []string{
			"\x00", "\x01", "\x02", "\x03", "\x04", "\xff",
			"\x02\x01", "\x02\x00", "\x02\x02a", "\x02\x11aaaaaaaaaaaaaaaaa",
			"\x01\x01a", "\x01\x01a\x01", "\x01\x01a\x21" + strings.Repeat("v", 33), "\x01\x00\x01v",
			"\x03\x01a", "\x03\x01a\x00\x00\x00\x00\x00\x00\x00", "\x03\x00\x00\x00\x00\x00\x00\x00\x00\x00",
			"\x00\x01a", "\x04\x01a", "\xff\x01a", "\x02\x01aa", "\x02\x01a\x00",
			"\x02\x01a\x02\x01a", "\x02\x01b\x02\x01a", "\x02\x02aa\x02\x01a", "\x02\x01\xff\x02\x01a", "\x02\x01a\x02\x01\x00",
			"\x02\x01a\x02\x01c\x02\x01b", "\x02\x01a\x02\x01c\x02\x01c", "\x02\x01b\x02\x01a\x02\x01c",
			"\x02\x01b\x01\x01b\x00", "\x03\x01b\x01\x00\x00\x00\x00\x00\x00\x00\x03\x01b\x01\x00\x00\x00\x00\x00\x00\x00",
		} {
			if _, e := buf.Parse(s); e != api.ErrForm {
				t.Errorf("%q: %v", s, e)
			}
			refusesParse(t, children+s)
			refusesParse(t, children+"\x02\x01A"+s)
			parsesAsTheTwin(t, children+s+"\x02\x01z") // what stands behind may be what the text was short of
			parsesAsTheTwin(t, children+"\x02\x01A"+s+"\x02\x01z")
		}
	}
}

// TestParseOfEachCountOfMessages: more than may wait, too, all of which may be.
func TestParseOfEachCountOfMessages(t *testing.T) {
	for _, count := range []int{0, 1, 63, 64, 65, 66, 128, 256, 256 + 64, 5000} {
		l := updatesOf(manyKeys(count)...)
		s := textOf(ofLows("", "m")) + messagesText(l)
		if right := parsesAsTheTwin(t, s); right != (count <= 64) {
			t.Errorf("%d: %v", count, right)
		}
	}
}

func TestParseOfCutBytes(t *testing.T) {
	for _, n := range some(t) {
		s, whole := textOf(n), 0
		for from := range len(s) + 1 {
			parsesAsTheTwin(t, s[from:])
			if parsesAsTheTwin(t, s[:from]) {
				whole++
			}
		}
		if whole != n.Buffer.Len()+1 { // of the first messages as many as there are, and of none
			t.Errorf("%d, of %d messages", whole, n.Buffer.Len())
		}
	}
}

// TestParseOfMoreBytes: some more at each place, and one less.
func TestParseOfMoreBytes(t *testing.T) {
	s := textOf(some(t)[7])
	for at := range len(s) + 1 {
		for _, more := range []string{"\x00", "\x01", "\x02", "a", "\xff", "\x00\x00", "\x02\x01a", "\x02\x01\xff", "\x01\x01c\x00", strings.Repeat("\x00", 17)} {
			parsesAsTheTwin(t, s[:at]+more+s[at:])
		}
		if at < len(s) {
			parsesAsTheTwin(t, s[:at]+s[at+1:])
		}
	}
}

func TestParseOfChangedBytes(t *testing.T) {
	all := some(t)
	for _, n := range []Node{all[0], all[4], all[5], all[7]} {
		s, right := textOf(n), 0
		for at := range len(s) {
			for to := range 256 {
				if parsesAsTheTwin(t, changed(s, at, byte(to))) {
					right++
				}
			}
		}
		if right < 256 {
			t.Errorf("%d of them are a node's", right)
		}
	}
}

// TestParseOfAnyBytes: a walk over texts of children and messages that are thrown together.
func TestParseOfAnyBytes(t *testing.T) {
	w := walk{173}
	right := 0
	for range 100000 {
		s := string([]byte{byte(w.below(4))})
		for range w.below(4) {
			s += []string{"\x00", "\x00", "\x01a", "\x01m", "\x02mm", "\x01\xff", "\x00a"}[w.below(7)]
			s += string([]byte{byte(w.below(3)), 0, 0, byte(w.below(150))}) + strings.Repeat(string([]byte{byte(w.below(256))}), 12)
		}
		for range w.below(4) {
			s += []string{"\x02\x01a", "\x02\x01m", "\x01\x01n\x01v", "\x03\x01q\x01\x00\x00\x00\x00\x00\x00\x00", "\x01\x00\x00", "\x02"}[w.below(6)]
		}
		if parsesAsTheTwin(t, s) {
			right++
		}
	}
	if right < 1000 {
		t.Errorf("%d of them are a node's", right)
	}
}

// TestParsedNodesHaveNothingInCommon: a change of the Children of one changes nothing of another one.
func TestParsedNodesHaveNothingInCommon(t *testing.T) {
	for _, n := range some(t) {
		s := textOf(n)
		first, _ := Parse(s)
		second, _ := Parse(s)
		for k := range first.Children {
			first.Children[k] = Child{"other", env.Ptr{Addr: 77, Gen: 77, Sum: 77}}
		}
		first.Children = append(first.Children, Child{Low: "more"})
		first.Buffer = first.Buffer.With(put("a", "other"))
		if !alike(second, n) {
			t.Errorf("%v, not %v", second, n)
		}
		parses(t, s, n)
	}
}

// TestParsedNodesAreNodes: what is made of them is as of others.
func TestParsedNodesAreNodes(t *testing.T) {
	n, e := Parse(textOf(some(t)[7]))
	if e != api.OK {
		t.Fatal(e)
	}
	n.Children = slices.Insert(n.Children, 3, Child{"m", env.Ptr{Addr: 9}})
	n.Buffer = n.Buffer.With(add("b", 7))
	isWithAll(t, n, true)
	if u, ok := n.Buffer.Get("b"); u != add("b", 12) || !ok || n.Child("n") != 3 {
		t.Errorf("%v, %v, %d", u, ok, n.Child("n"))
	}
}
