package mirror

import (
	"slices"
	"strings"
	"testing"

	"treenail/api"
	"treenail/dev"
	"treenail/env"
	"treenail/remap"
)

// twin is a mirror as the chapter says it, over a pair of its own, made otherwise than the program: it asks both devices of all first, marks bad places in an array, and holds whole images against such as it makes by other means.
type twin struct {
	p       *remap.Pair
	d       [2]*dev.Device
	repairs int
	bad     [2][blocks]bool
}

// wrong: what is refused at once; a nil image is none.
func (w *twin) wrong(x int, image *string) api.Errno {
	if x < 0 || x >= blocks {
		return api.ErrRange
	}
	if image != nil && len(*image) != shape.Size {
		return api.ErrArg
	}
	return api.OK
}

// one writes one side's copy: OK, ErrPower, or ErrMedia of all else.
func (w *twin) one(side, x int, image string) api.Errno {
	e := w.p.Write(side, x, image)
	if e == api.ErrSpares {
		w.bad[side][x] = true
	}
	if e == api.OK {
		w.bad[side][x] = false
	}
	if e != api.OK && e != api.ErrPower {
		e = api.ErrMedia
	}
	return e
}

func (w *twin) repair(side, x int, image string) (int, api.Errno) {
	switch e := w.one(side, x, image); e {
	case api.OK:
		w.repairs++
		return 1, e
	case api.ErrPower:
		return 0, e
	}
	return 0, api.OK
}

func (w *twin) bothGone() bool { return w.d[0].Dead() && w.d[1].Dead() }

func (w *twin) write(x int, image string) api.Errno {
	if e := w.wrong(x, &image); e != api.OK {
		return e
	}
	if w.bothGone() {
		return api.ErrLost
	}
	first, second := api.ErrMedia, api.ErrMedia
	if !w.d[0].Dead() {
		first = w.one(0, x, image)
	}
	if !w.d[1].Dead() && first != api.ErrPower {
		second = w.one(1, x, image)
	}
	if first == api.ErrPower || second == api.ErrPower {
		return api.ErrPower
	}
	return min(first, second) // OK is the least one
}

func (w *twin) flush() api.Errno {
	answer := api.ErrLost
	for _, d := range w.d {
		if !d.Dead() {
			answer = d.Flush()
		}
		if answer == api.ErrPower {
			break
		}
	}
	return answer
}

// asked: what a side's copy is: OK, ErrPower, ErrLost, or ErrMedia.
func (w *twin) asked(side, x int) (string, api.Errno) {
	if w.d[side].Dead() {
		return "", api.ErrLost
	}
	place, _ := w.p.Table(side).At(x)
	return w.d[side].Read(slots + place)
}

// whole: is it the image of a block of which that is known?
func whole(image string, want env.Ptr) bool {
	if len(image) != shape.Size || image[4] < 1 || image[4] > 5 || image[6] > 104 || image[7] > 0 {
		return false
	}
	return image == sealed(shape.Size, image[4], want.Addr, want.Gen, image[24:24+image[6]]) && known(image) == want
}

func (w *twin) read(want env.Ptr) (env.Kind, string, api.Errno) {
	if e := w.wrong(want.Addr, nil); e != api.OK {
		return 0, "", e
	}
	image, e := w.asked(0, want.Addr)
	if e == api.ErrPower {
		return 0, "", e
	}
	if !whole(image, want) {
		image, e = w.asked(1, want.Addr)
		if e == api.ErrPower {
			return 0, "", e
		}
		if !whole(image, want) {
			return 0, "", w.nowhere()
		}
		if !w.d[0].Dead() {
			if _, e := w.repair(0, want.Addr, image); e == api.ErrPower {
				return 0, "", e
			}
		}
	}
	return env.Kind(image[4]), image[24 : 24+image[6]], api.OK
}

func (w *twin) nowhere() api.Errno {
	if w.bothGone() {
		return api.ErrLost
	}
	return api.ErrCorrupt
}

func (w *twin) images(x int) ([]string, api.Errno) {
	if e := w.wrong(x, nil); e != api.OK {
		return nil, e
	}
	var l []string
	for side := range 2 {
		s, e := w.asked(side, x)
		if e == api.ErrPower {
			return nil, e
		}
		if e == api.OK {
			l = append(l, s)
		}
	}
	return l, api.OK
}

func (w *twin) heal(x int, image string) (int, api.Errno) {
	if e := w.wrong(x, &image); e != api.OK {
		return 0, e
	}
	count := 0
	for side := range 2 {
		s, e := w.asked(side, x)
		if e != api.ErrLost && e != api.ErrPower && s != image {
			var n int
			n, e = w.repair(side, x, image)
			count += n
		}
		if e == api.ErrPower {
			return 0, e
		}
	}
	return count, api.OK
}

func (w *twin) check(want env.Ptr) (int, api.Errno) {
	if e := w.wrong(want.Addr, nil); e != api.OK {
		return 0, e
	}
	for side := range 2 {
		s, e := w.asked(side, want.Addr)
		if e == api.ErrPower {
			return 0, e
		}
		if whole(s, want) {
			return w.heal(want.Addr, s)
		}
	}
	return 0, w.nowhere()
}

func (w *twin) wholes(want env.Ptr) ([2]bool, api.Errno) {
	if e := w.wrong(want.Addr, nil); e != api.OK {
		return [2]bool{}, e
	}
	first, e := w.asked(0, want.Addr)
	if e == api.ErrPower {
		return [2]bool{}, e
	}
	second, e := w.asked(1, want.Addr)
	if e == api.ErrPower {
		return [2]bool{}, e
	}
	return [2]bool{whole(first, want), whole(second, want)}, api.OK
}

// dice tells numbers that differ from walk to walk, and are the same in each run.
type dice uint32

func (n *dice) upTo(most int) int {
	*n = *n*1664525 + 1013904223
	return int(uint32(*n)>>8) % most
}

func (n *dice) fates() []dev.Fate {
	var list []dev.Fate
	for range n.upTo(8) {
		list = append(list, []dev.Fate{dev.Drop, dev.Keep, dev.Tear + dev.Fate(n.upTo(shape.Size))}[n.upTo(3)])
	}
	return list
}

// both is the program's mirror and the twin, and the images that were written to each block.
type both struct {
	world *world
	w     *twin
	wrote [blocks][]string
}

// begun: of some walks with many bad sectors from the beginning on.
func begun(t *testing.T, n *dice) *both {
	t.Helper()
	x, y := made(t, spares), made(t, spares)
	b := &both{world: x, w: &twin{p: y.p, d: y.d}}
	for range n.upTo(2) * n.upTo(24) {
		side, i := n.upTo(2), slots+n.upTo(blocks+spares)
		for _, d := range b.devices(side) {
			d.Stick(i)
		}
	}
	for k := range blocks {
		b.wrote[k] = []string{sealed(128, 3, k, 0, "")}
	}
	return b
}

func (b *both) devices(side int) [2]*dev.Device {
	return [2]*dev.Device{b.world.d[side], b.w.d[side]}
}

// image: mostly one of the block, newer than all that were written to it; or such an elder one, one of another block, or none.
func (b *both) image(n *dice, x int) string {
	at := min(max(x, 0), blocks-1)
	l := b.wrote[at]
	switch n.upTo(12) {
	case 0, 1:
		return l[n.upTo(len(l))]
	case 2:
		other := b.wrote[n.upTo(blocks)]
		return other[n.upTo(len(other))]
	case 3:
		return strings.Repeat("n", shape.Size-n.upTo(2))
	}
	image := sealed(shape.Size, byte(1+n.upTo(5)), at, uint64(len(l)), strings.Repeat("p", n.upTo(105)))
	b.wrote[at] = append(l, image)
	return image
}

// want: what is known of the image that was written last; or of another one.
func (b *both) want(n *dice, x int) env.Ptr {
	l := b.wrote[min(max(x, 0), blocks-1)]
	p := known(l[len(l)-1])
	switch n.upTo(12) {
	case 0, 1:
		p = known(l[n.upTo(len(l))])
	case 2:
		p.Gen++
	case 3:
		p.Sum ^= 1 << n.upTo(32)
	}
	if x < 0 || x >= blocks {
		p.Addr = x
	}
	return p
}

// goes does one thing to both, and tells what both answer.
func (b *both) goes(t *testing.T, n *dice) (got, want answer) {
	m, w, x := b.world.m, b.w, n.upTo(blocks+2)-1
	switch n.upTo(16) {
	case 0, 1:
		s := b.image(n, x)
		got.e, want.e = m.Write(x, s), w.write(x, s)
	case 2:
		got.e, want.e = m.Flush(), w.flush()
	case 3, 4, 5:
		p := b.want(n, x)
		got.kind, got.text, got.e = m.Read(p)
		want.kind, want.text, want.e = w.read(p)
	case 6:
		got.images, got.e = m.Images(x)
		want.images, want.e = w.images(x)
	case 7:
		s := b.image(n, x)
		got.number, got.e = m.Heal(x, s)
		want.number, want.e = w.heal(x, s)
	case 8:
		p := b.want(n, x)
		got.number, got.e = m.Check(p)
		want.number, want.e = w.check(p)
	case 9, 10:
		p := b.want(n, x)
		got.whole, got.e = m.Whole(p)
		want.whole, want.e = w.wholes(p)
	case 11:
		b.crashes(n)
	case 12:
		got.e, want.e = b.replaces(t, n)
	default:
		b.fault(n, n.upTo(2))
	}
	return got, want
}

func (b *both) crashes(n *dice) {
	for side := range 2 {
		fates := n.fates()
		for _, d := range b.devices(side) {
			d.Crash(fates)
		}
	}
}

// replaces mostly such a side alone as is gone.
func (b *both) replaces(t *testing.T, n *dice) (api.Errno, api.Errno) {
	side := n.upTo(2)
	if n.upTo(3) != 0 || !b.world.d[side].Dead() && n.upTo(5) != 0 {
		return api.OK, api.OK
	}
	d, other := device(t, shape), device(t, shape)
	i := n.upTo(30)
	d.Stick(i)
	other.Stick(i)
	e, f := b.world.p.Replace(side, d), b.w.p.Replace(side, other)
	if e == api.OK {
		b.world.d[side], b.w.d[side] = d, other
	}
	return e, f
}

func (b *both) fault(n *dice, side int) {
	kind, i, k, at, by := n.upTo(12), slots+n.upTo(blocks+spares), n.upTo(5), n.upTo(shape.Size), byte(n.upTo(256))
	if kind == 0 && n.upTo(30) == 0 {
		i = n.upTo(slots)
	}
	for _, d := range b.devices(side) {
		switch kind {
		case 0:
			d.Stick(i)
		case 1, 2, 3, 4, 5:
			d.Garble(i, at, by)
		case 6:
			d.Lose(k)
		case 7:
			d.Stray(k, i)
		case 8:
			if k == 0 {
				d.Kill()
			}
		default:
			d.Fuse(k * 2)
		}
	}
}

// alike: do both tell the same, and have the same on their devices?
func (b *both) alike() string {
	m, w := b.world.m, b.w
	var bad []Place
	for side, l := range w.bad {
		for x, isBad := range l {
			if isBad {
				bad = append(bad, Place{side, x})
			}
		}
	}
	if m.Repairs() != w.repairs || m.Degraded() != (w.d[0].Dead() || w.d[1].Dead()) {
		return "the repairs, or a side that is gone"
	}
	if !slices.Equal(m.Bad(), bad) {
		return "the bad places"
	}
	for side := range 2 {
		d := b.devices(side)
		_, x, f := d[0].Count()
		if _, y, g := d[1].Count(); x != y || f != g || d[0].Off() != d[1].Off() || b.world.p.Table(side) != w.p.Table(side) {
			return "the counts, the power, or the tables"
		}
		for i := range shape.Sectors {
			if d[0].Media(i) != d[1].Media(i) {
				return "what lasts"
			}
		}
	}
	return ""
}

// TestBesideATwin: in long walks through all calls and faults, all is told as the twin tells it.
func TestBesideATwin(t *testing.T) {
	answers := map[api.Errno]int{}
	bads, repairs := 0, 0
	for seed := range 400 {
		n := dice(seed * 7919)
		b := begun(t, &n)
		for k := range 250 {
			got, want := b.goes(t, &n)
			if !got.equal(want) {
				t.Fatalf("walk %d, step %d: %v, not %v", seed, k, got, want)
			}
			if what := b.alike(); what != "" {
				t.Fatalf("walk %d, step %d: %s", seed, k, what)
			}
			answers[got.e]++
		}
		bads += len(b.world.m.Bad())
		repairs += b.world.m.Repairs()
	}
	for _, e := range []api.Errno{api.OK, api.ErrArg, api.ErrRange, api.ErrPower, api.ErrMedia, api.ErrLost, api.ErrCorrupt} {
		if answers[e] < 100 {
			t.Errorf("only %d answers were %v", answers[e], e)
		}
	}
	if bads < 100 || repairs < 1000 {
		t.Errorf("only %d places were bad, %d repairs", bads, repairs)
	}
}
