package remap

import (
	"math"
	"strings"
	"testing"

	"treenail/api"
	"treenail/dev"
)

// P7.1: Open.

// TestOpenReadsAlone: it writes nothing, and flushes nothing.
func TestOpenReadsAlone(t *testing.T) {
	p, a, b := made(t)
	moves(t, p, 0, 3, 4)
	writes(t, p, 1, 3, page("w"))
	first, second := lasting(a), lasting(b)
	_, w, f := b.Count()
	opens(t, a, b, spares)
	if _, w2, f2 := b.Count(); w2 != w || f2 != f {
		t.Errorf("%d writes, %d flushes", w2-w, f2-f)
	}
	lasts(t, a, first)
	lasts(t, b, second)
}

func TestOpenOfNoTable(t *testing.T) {
	refusesOpen(t, device(t, shape), device(t, shape), spares, api.ErrCorrupt)
	refusesOpen(t, filled(t, shape), filled(t, shape), spares, api.ErrCorrupt)
	_, a, b := made(t)
	refusesOpen(t, b, a, spares, api.ErrCorrupt)
	for side := range Sides {
		a, b := device(t, shape), device(t, shape)
		puts(t, []*dev.Device{a, b}[side], 0, imageOf(128, side))
		refusesOpen(t, a, b, spares, api.ErrCorrupt)
	}
	opens(t, a, device(t, shape), spares)
	opens(t, device(t, shape), b, spares)
}

// bare: two devices on which nothing lasts but the other side's table, on one of them.
func bare(t *testing.T, side int) [Sides]*dev.Device {
	t.Helper()
	d := [Sides]*dev.Device{device(t, shape), device(t, shape)}
	puts(t, d[1-side], 0, imageOf(128, 1-side))
	return d
}

// laid writes an image into one of the four slots of a side's table: its own device's first.
func laid(t *testing.T, d [Sides]*dev.Device, side, place int, image string) {
	t.Helper()
	if place < 2 {
		puts(t, d[side], place, image)
	} else {
		puts(t, d[1-side], place, image)
	}
}

func TestOpenOfOneImage(t *testing.T) {
	for side := range Sides {
		for place := range 4 {
			for _, moved := range [][]int{nil, {3}, {8, 0}, {3, 3, 3}} {
				d := bare(t, side)
				laid(t, d, side, place, imageOf(128, side, moved...))
				p := opens(t, d[0], d[1], spares)
				tableIs(t, p, side, moved...)
				tableIs(t, p, 1-side)
			}
		}
	}
}

// TestOpenTakesTheGreatestGeneration: of four images in the side's slots, in each order.
func TestOpenTakesTheGreatestGeneration(t *testing.T) {
	tables := [][]int{nil, {1}, {2, 5}, {7, 8, 7}}
	for side := range Sides {
		for order := range 256 {
			d := bare(t, side)
			most := 0
			for place := range 4 {
				k := order >> (2 * place) & 3
				laid(t, d, side, place, imageOf(128, side, tables[k]...))
				most = max(most, k)
			}
			tableIs(t, opens(t, d[0], d[1], spares), side, tables[most]...)
		}
	}
}

// TestOpenPassesOverWhatIsNoTable: each wrong image is of a late generation, or the only one.
func TestOpenPassesOverWhatIsNoTable(t *testing.T) {
	for side := range Sides {
		late := textOf(3, 1, 2, 3)
		wrong := []string{
			sealed(128, 2, 1-side, 3, late), sealed(128, 2, 2+side, 3, late), sealed(128, 2, 256+side, 3, late), sealed(128, 2, 1<<31+side, 3, late),
			sealed(128, 1, side, 3, late), sealed(128, 3, side, 3, late), sealed(128, 4, side, 3, late), sealed(128, 5, side, 3, late), sealed(128, 0, side, 3, late), sealed(128, 6, side, 3, late),
			sealed(128, 2, side, 2, late), sealed(128, 2, side, 4, late), sealed(128, 2, side, 0, late), sealed(128, 2, side, 1<<32+3, late), sealed(128, 2, side, math.MaxUint64, late),
			sealed(128, 2, side, 3, ""), sealed(128, 2, side, 3, late[1:]), sealed(128, 2, side, 3, late[:13]), sealed(128, 2, side, 3, late+"\x00"), sealed(128, 2, side, 3, late+"\x00\x00"),
			sealed(128, 2, side, 4, textOf(4, 1, 2, 3, 4)), sealed(128, 2, side, 4, textOf(4, 1, 2, 3)), sealed(128, 2, side, 2, textOf(2, 1, 2, 3)), sealed(128, 2, side, math.MaxUint64, textOf(math.MaxUint64)),
			sealed(128, 2, side, 3, textOf(3, 1, 2, blocks)), sealed(128, 2, side, 3, textOf(3, 65535, 2, 1)), sealed(128, 2, side, 1, textOf(1, 4095)),
			sealed(128, 2, side, 3, late)[1:] + "\x00", strings.Repeat("\xff", 128),
		}
		for _, image := range wrong {
			for place := range 4 {
				d := bare(t, side)
				laid(t, d, side, place, image)
				refusesOpen(t, d[0], d[1], spares, api.ErrCorrupt)
				laid(t, d, side, (place+1)%4, imageOf(128, side, 6))
				tableIs(t, opens(t, d[0], d[1], spares), side, 6)
			}
		}
	}
}

func TestOpenOfGarbledImages(t *testing.T) {
	for at := range 128 {
		for _, by := range []byte{1, 0x80, 0xff} {
			for side := range Sides {
				p, a, b := made(t)
				moves(t, p, side, 4, 4)
				own, other := p.Device(side), p.Device(1-side)
				own.Garble(0, at, by)
				tableIs(t, opens(t, a, b, spares), side, 4, 4)
				other.Garble(2, at, by)
				tableIs(t, opens(t, a, b, spares), side, 4)
				other.Garble(3, at, by)
				tableIs(t, opens(t, a, b, spares), side, 4)
				own.Garble(1, at, by)
				refusesOpen(t, a, b, spares, api.ErrCorrupt)
				own.Garble(0, at, by)
				tableIs(t, opens(t, a, b, spares), side, 4, 4)
			}
		}
	}
}

// TestOpenOfSlotsThatAreBad: one slot is left, or none.
func TestOpenOfSlotsThatAreBad(t *testing.T) {
	for side := range Sides {
		for left := range 5 {
			p, a, b := made(t)
			moves(t, p, side, 2, 7)
			for place := range 4 {
				if place != left {
					p.Device(side ^ place/2).Stick(place)
				}
			}
			if left == 4 {
				refusesOpen(t, a, b, spares, api.ErrCorrupt)
				continue
			}
			tableIs(t, opens(t, a, b, spares), side, [][]int{{2, 7}, {2}}[left%2]...)
		}
	}
}

func TestOpenOfSectorsThatAreNoSlotsOfTheSide(t *testing.T) {
	for side := range Sides {
		for i := range shape.Sectors {
			d := bare(t, side)
			if i != 0 {
				puts(t, d[1-side], 0, imageOf(128, 1-side))
			}
			own, other := i < 2, i == 2 || i == 3
			if !own {
				puts(t, d[side], i, imageOf(128, side, 1))
			}
			if !other && i != 0 {
				puts(t, d[1-side], i, imageOf(128, side, 1))
			}
			refusesOpen(t, d[0], d[1], spares, api.ErrCorrupt)
		}
	}
}

func TestOpenWithOneDeviceGone(t *testing.T) {
	for side := range Sides {
		p, a, b := made(t)
		moves(t, p, 0, 1, 2, 3)
		moves(t, p, 1, 4, 4)
		writes(t, p, 1-side, 4, page("w"))
		p.Device(side).Kill()
		q := opens(t, a, b, spares)
		tableIs(t, q, 0, 1, 2, 3)
		tableIs(t, q, 1, 4, 4)
		reads(t, q, 1-side, 4, page("w"))
		if q.Alive(side) || !q.Alive(1-side) || q.Device(0) != a || q.Device(1) != b {
			t.Errorf("%v, %v", q.Alive(0), q.Alive(1))
		}
		p.Device(1 - side).Kill()
		refusesOpen(t, a, b, spares, api.ErrCorrupt)
	}
}

// TestOpenByOtherSpares: a table in which more were moved is none of a pair with so few spares.
func TestOpenByOtherSpares(t *testing.T) {
	p, a, b := made(t)
	moves(t, p, 0, 1, 2)
	refusesOpen(t, a, b, 0, api.ErrCorrupt)
	for n := 1; n <= 5; n++ {
		x := opens(t, a, b, n).Table(0)
		if gen := min(n, 2); x.Gen() != uint64(gen) || x.Blocks() != 12-n || x.Left() != n-gen {
			t.Errorf("with %d spares: the generation %d, %d blocks, %d left", n, x.Gen(), x.Blocks(), x.Left())
		}
	}
}
