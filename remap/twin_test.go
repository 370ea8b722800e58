package remap

import (
	"encoding/binary"
	"slices"
	"strings"
	"testing"

	"treenail/api"
	"treenail/dev"
	"treenail/table"
)

// twin is a pair as the chapter says it, on devices of its own, made otherwise than the program: it keeps lists of what was moved, writes images by other means, and takes one for a table's, if it would write the same.
type twin struct {
	devices [Sides]*dev.Device
	moved   [Sides][]int
}

func (w *twin) sector(side, block int) int {
	if k := slices.Index(reversed(w.moved[side]), block); k >= 0 {
		return 4 + blocks + len(w.moved[side]) - 1 - k
	}
	return 4 + block
}

func reversed(list []int) []int {
	list = slices.Clone(list)
	slices.Reverse(list)
	return list
}

// wrong: what a call of a side and a block is refused with at once.
func (w *twin) wrong(side, block int) api.Errno {
	if side != 0 && side != 1 {
		return api.ErrArg
	}
	if block < 0 || block >= blocks {
		return api.ErrRange
	}
	return api.OK
}

func (w *twin) read(side, block int) (string, api.Errno) {
	if e := w.wrong(side, block); e != api.OK {
		return "", e
	}
	return w.devices[side].Read(w.sector(side, block))
}

func (w *twin) write(side, block int, image string) api.Errno {
	if e := w.wrong(side, block); e != api.OK {
		return e
	}
	e := w.devices[side].Write(w.sector(side, block), image)
	if e != api.ErrMedia {
		return e
	}
	if e := w.move(side, block); e != api.OK {
		return e
	}
	return w.write(side, block, image)
}

func (w *twin) move(side, block int) api.Errno {
	if e := w.wrong(side, block); e != api.OK {
		return e
	}
	if len(w.moved[side]) == spares {
		return api.ErrSpares
	}
	moved := append(slices.Clone(w.moved[side]), block)
	e := keep(w.devices, side, moved)
	if e == api.OK {
		w.moved[side] = moved
	}
	return e
}

// keep tells ErrPower of the first device that tells it; one that is gone is asked nothing.
func keep(devices [Sides]*dev.Device, side int, moved []int) api.Errno {
	image, turn := imageOf(shape.Size, side, moved...), len(moved)%2
	has := 0
	for _, at := range []struct {
		d    *dev.Device
		slot int
	}{{devices[side], turn}, {devices[side^1], 2 + turn}} {
		if at.d.Dead() {
			continue
		}
		e := at.d.Write(at.slot, image)
		if e == api.OK {
			e = at.d.Flush()
			has++
		}
		if e == api.ErrPower {
			return e
		}
	}
	if has == 0 {
		return api.ErrLost
	}
	return api.OK
}

func keepAll(devices [Sides]*dev.Device, moved [Sides][]int) api.Errno {
	e := keep(devices, 0, moved[0])
	if e == api.OK {
		e = keep(devices, 1, moved[1])
	}
	return e
}

func (w *twin) flush(side int) api.Errno {
	if e := w.wrong(side, 0); e != api.OK {
		return e
	}
	return w.devices[side].Flush()
}

func (w *twin) format() api.Errno {
	e := keepAll(w.devices, [Sides][]int{})
	if e == api.OK {
		w.moved = [Sides][]int{}
	}
	return e
}

func (w *twin) replace(side int, d *dev.Device) api.Errno {
	if side != 0 && side != 1 || d.Shape() != shape || d == w.devices[0] || d == w.devices[1] {
		return api.ErrArg
	}
	devices := w.devices
	devices[side] = d
	e := keepAll(devices, w.moved)
	if e == api.OK {
		w.devices = devices
	}
	return e
}

func (w *twin) open() api.Errno {
	if w.devices[0].Off() || w.devices[1].Off() {
		return api.ErrPower
	}
	var all [Sides][]int
	for side := range Sides {
		var lists [][]int
		for place := range 4 {
			s, e := w.devices[side^place/2].Read(place)
			if list, ok := movedIn(s, side); e == api.OK && ok {
				lists = append(lists, list)
			}
		}
		if len(lists) == 0 {
			return api.ErrCorrupt
		}
		slices.SortStableFunc(lists, func(x, y []int) int { return len(y) - len(x) })
		all[side] = lists[0]
	}
	w.moved = all
	return api.OK
}

// movedIn: the list of which a text is the image.
func movedIn(s string, side int) ([]int, bool) {
	if len(s) != shape.Size || s[12] > spares {
		return nil, false
	}
	list := []int{}
	for k := range int(s[12]) {
		list = append(list, int(binary.LittleEndian.Uint16([]byte(s[32+2*k:]))))
	}
	return list, s == imageOf(shape.Size, side, list...) && !slices.ContainsFunc(list, func(block int) bool { return block >= blocks })
}

// dice tells numbers that differ from walk to walk, and are the same in each run.
type dice uint32

func (n *dice) upTo(most int) int {
	*n = *n*1664525 + 1013904223
	return int(uint32(*n)>>8) % most
}

func (n *dice) side() int { return n.upTo(22)/10 - n.upTo(22)/21 }

func (n *dice) block() int { return n.upTo(blocks+2) - 1 }

func (n *dice) text() string {
	if n.upTo(30) == 0 {
		return "short"
	}
	return page(string([]byte{byte('a' + n.upTo(26))}))
}

func (n *dice) fates() []dev.Fate {
	var list []dev.Fate
	for range n.upTo(8) {
		list = append(list, []dev.Fate{dev.Drop, dev.Keep, dev.Tear + dev.Fate(n.upTo(shape.Size))}[n.upTo(3)])
	}
	return list
}

// both is the program's pair and the twin.
type both struct {
	p *Pair
	w twin
}

// goes does one thing to both, and tells what both answer.
func (x *both) goes(n *dice) (string, api.Errno, string, api.Errno) {
	side, block := n.side(), n.block()
	switch n.upTo(14) {
	case 0, 1, 2, 3:
		s := n.text()
		return "", x.p.Write(side, block, s), "", x.w.write(side, block, s)
	case 4, 5:
		got, e := x.p.Read(side, block)
		want, f := x.w.read(side, block)
		return got, e, want, f
	case 6:
		if n.upTo(3) == 0 {
			return "", x.p.Move(side, block), "", x.w.move(side, block)
		}
	case 7:
		return "", x.p.Flush(side), "", x.w.flush(side)
	case 8:
		return x.replaces(n, side)
	case 9, 10:
		return x.opens(n)
	case 11:
		x.crashes(n)
	default:
		x.fault(n, n.upTo(Sides))
	}
	return "", 0, "", 0
}

func (x *both) replaces(n *dice, side int) (string, api.Errno, string, api.Errno) {
	s := shape
	if n.upTo(6) == 0 {
		s.Sectors++
	}
	d, _ := dev.New(s)
	other, _ := dev.New(s)
	if n.upTo(6) == 0 {
		d, other = x.p.Device(n.upTo(2)), x.w.devices[0]
	}
	for _, y := range []*dev.Device{d, other} {
		if s == shape && d != x.p.Device(0) && d != x.p.Device(1) {
			y.Stick(int(*n>>9) % 40)
		}
	}
	return "", x.p.Replace(side, d), "", x.w.replace(side, other)
}

// opens makes the pair anew: mostly as it lasts.
func (x *both) opens(n *dice) (string, api.Errno, string, api.Errno) {
	a, b := x.p.Device(0), x.p.Device(1)
	var q *Pair
	var e, f api.Errno
	if n.upTo(5) == 0 {
		q, e = Format(a, b, spares)
		f = x.w.format()
	} else {
		q, e = Open(a, b, spares)
		f = x.w.open()
	}
	if e == api.OK {
		x.p = q
	} else if q != nil {
		return "a pair beside an error", e, "", f
	}
	return "", e, "", f
}

func (x *both) crashes(n *dice) {
	for side := range Sides {
		fates := n.fates()
		x.p.Device(side).Crash(fates)
		x.w.devices[side].Crash(fates)
	}
}

func (x *both) fault(n *dice, side int) {
	kind, i, k, at, by := n.upTo(12), n.upTo(shape.Sectors), n.upTo(6), n.upTo(40), byte(n.upTo(256))
	if kind == 0 && n.upTo(4) != 0 {
		i = 4 + i%12 // slots that are bad all over tell little
	}
	for _, d := range []*dev.Device{x.p.Device(side), x.w.devices[side]} {
		switch kind {
		case 0:
			d.Stick(i)
		case 1, 2, 3:
			d.Garble(i%5, at, by)
		case 4, 5:
			d.Lose(k)
		case 6, 7:
			d.Stray(k, i)
		case 8:
			if k == 0 && at < 10 {
				d.Kill()
			}
		default:
			d.Fuse(k)
		}
	}
}

// alike: do both tell the same, and have the same on their devices?
func (x *both) alike() string {
	for side, d := range x.w.devices {
		y := x.p.Device(side)
		want, _ := table.Parse(textOf(uint64(len(x.w.moved[side])), x.w.moved[side]...), blocks, spares)
		if x.p.Table(side) != want {
			return "the tables"
		}
		_, w, f := d.Count()
		if _, w2, f2 := y.Count(); w != w2 || f != f2 {
			return "the counts"
		}
		if x.p.Alive(side) == d.Dead() || y.Off() != d.Off() {
			return "the power"
		}
		if strings.Join(lasting(y), "") != strings.Join(lasting(d), "") {
			return "what lasts"
		}
	}
	return ""
}

// TestBesideATwin: in long walks through all calls and faults, all is told as the twin tells it.
func TestBesideATwin(t *testing.T) {
	answers := map[api.Errno]int{}
	for seed := range 400 {
		n := dice(seed * 7919)
		p, _, _ := made(t)
		x := both{p, twin{devices: [Sides]*dev.Device{device(t, shape), device(t, shape)}}}
		told(t, "the twin's Format", x.w.format(), api.OK)
		for k := range 300 {
			got, e, want, f := x.goes(&n)
			if got != want || e != f {
				t.Fatalf("walk %d, step %d: %q, %v, not %q, %v", seed, k, got, e, want, f)
			}
			if what := x.alike(); what != "" {
				t.Fatalf("walk %d, step %d: %s", seed, k, what)
			}
			answers[e]++
		}
	}
	for _, e := range []api.Errno{api.OK, api.ErrArg, api.ErrRange, api.ErrPower, api.ErrMedia, api.ErrLost, api.ErrSpares, api.ErrCorrupt} {
		if answers[e] < 100 {
			t.Errorf("only %d answers were %v", answers[e], e)
		}
	}
}
