package mirror

import (
	"encoding/binary"
	"slices"
	"testing"

	"treenail/api"
	"treenail/remap"
)

// P8.3: Images.

func TestImagesOfEachTwoCopies(t *testing.T) {
	eachPair(t, func(t *testing.T, h *hope) {
		var want []string
		for side, x := range h.both {
			if x.reads {
				want = append(want, h.copies[side])
			}
		}
		done := h.done()
		if l, e := h.m.Images(block); !slices.Equal(l, want) || e != api.OK {
			t.Errorf("%q, %v, not %q", l, e, want)
		}
		h.holds(t)
		if h.done() != done {
			t.Error("Images wrote")
		}
	})
}

func TestImagesOfEachBlock(t *testing.T) {
	w := made(t, spares)
	for x := range blocks {
		if l, e := w.m.Images(x); !slices.Equal(l, []string{page("\x00"), page("\x00")}) || e != api.OK {
			t.Errorf("%q, %v", l, e)
		}
		for side := range remap.Sides {
			told(t, "layer 7's Write", w.p.Write(side, x, page(string([]byte{byte('A' + 32*side + x)}))), api.OK)
		}
	}
	for x := range blocks {
		want := []string{page(string([]byte{byte('A' + x)})), page(string([]byte{byte('a' + x)}))}
		l, e := w.m.Images(x)
		if !slices.Equal(l, want) || e != api.OK {
			t.Errorf("%q, %v, not %q", l, e, want)
		}
		l[0], l[1] = "", ""
		if l, _ := w.m.Images(x); !slices.Equal(l, want) {
			t.Errorf("%q, not %q", l, want)
		}
	}
	w.tells(t, 0, false)
}

// P8.3: Heal.

// TestHealOfEachTwoCopies: with an image that both sides have, that one has, and that none has; also with one that isn't what was written.
func TestHealOfEachTwoCopies(t *testing.T) {
	for _, image := range []string{written(), elder(), page("q"), page("\x00")} {
		eachPair(t, func(t *testing.T, h *hope) {
			want := 0
			for side, x := range h.both {
				if !x.reads || h.copies[side] != image {
					want += h.toRepair(side, image)
				}
			}
			for _, n := range []int{want, 0} {
				if got, e := h.m.Heal(block, image); got != n || e != api.OK {
					t.Errorf("%d, %v, not %d", got, e, n)
				}
				h.holds(t)
			}
		})
	}
}

// TestHealHoldsEachByte: an image that differs in one byte is another one.
func TestHealHoldsEachByte(t *testing.T) {
	w := made(t, spares)
	writes(t, w.m, block, page("v"))
	repairs := 0
	for at := range 128 {
		image := []byte(page("v"))
		image[at] ^= 1
		w.d[1].Garble(slots+block, at, 1)
		repairs++
		if n, e := w.m.Heal(block, string(image)); n != 1 || e != api.OK {
			t.Errorf("the byte %d: %d, %v", at, n, e)
		}
		w.has(t, block, [2]string{string(image), string(image)})
		w.tells(t, repairs, false)
		repairs += 2
		if n, e := w.m.Heal(block, page("v")); n != 2 || e != api.OK {
			t.Errorf("the byte %d: %d, %v", at, n, e)
		}
	}
}

// TestHealDoesNotWriteWhatIsThere: each side by itself.
func TestHealDoesNotWriteWhatIsThere(t *testing.T) {
	for side := range remap.Sides {
		w := made(t, spares)
		writes(t, w.m, block, page("v"))
		told(t, "layer 7's Write", w.p.Write(side, block, page("w")), api.OK)
		for k, image := range []string{page("w"), page("w"), page("v"), page("x")} {
			done := w.done()
			n, e := w.m.Heal(block, image)
			if n != []int{1, 0, 2, 2}[k] || e != api.OK {
				t.Errorf("%d, %v", n, e)
			}
			if k == 0 {
				done[1-side][0]++
			} else {
				done[0][0] += n / 2
				done[1][0] += n / 2
			}
			if w.done() != done {
				t.Errorf("%v, not %v", w.done(), done)
			}
		}
	}
}

// P8.3: Check and Whole.

func TestCheckOfEachTwoCopies(t *testing.T) {
	eachPair(t, func(t *testing.T, h *hope) {
		if !h.both[0].whole && !h.both[1].whole {
			want := h.lost()
			if n, e := h.m.Check(known(written())); n != 0 || e != want {
				t.Errorf("%d, %v, not %v", n, e, want)
			}
			h.holds(t)
			return
		}
		want := 0
		for side, x := range h.both {
			if !x.whole {
				want += h.toRepair(side, written())
			}
		}
		for _, n := range []int{want, 0} {
			if got, e := h.m.Check(known(written())); got != n || e != api.OK {
				t.Errorf("%d, %v, not %d", got, e, n)
			}
			h.holds(t)
		}
	})
}

func TestWholeOfEachTwoCopies(t *testing.T) {
	eachPair(t, func(t *testing.T, h *hope) {
		done := h.done()
		want := [2]bool{h.both[0].whole, h.both[1].whole}
		if got, e := h.m.Whole(known(written())); got != want || e != api.OK {
			t.Errorf("%v, %v, not %v", got, e, want)
		}
		h.holds(t)
		if h.done() != done {
			t.Error("Whole wrote")
		}
	})
}

// TestTwoUnlikeWholeCopies: both meet what is known, so each side's is whole; Read tells the side 0's, and Check writes it to the side 1.
func TestTwoUnlikeWholeCopies(t *testing.T) {
	first, second := twins()
	if first == second || known(first) != known(second) {
		t.Fatalf("%v, %v", known(first), known(second))
	}
	w := made(t, spares)
	told(t, "layer 7's Write", w.p.Write(0, block, first), api.OK)
	told(t, "layer 7's Write", w.p.Write(1, block, second), api.OK)
	if _, s, e := w.m.Read(known(first)); s != first[24:24+len(s)] || len(s) != 40 || e != api.OK {
		t.Errorf("%q, %v", s, e)
	}
	if l, e := w.m.Whole(known(first)); l != [2]bool{true, true} || e != api.OK {
		t.Errorf("%v, %v", l, e)
	}
	w.has(t, block, [2]string{first, second})
	w.tells(t, 0, false)
	if n, e := w.m.Check(known(first)); n != 1 || e != api.OK {
		t.Errorf("%d, %v", n, e)
	}
	w.has(t, block, [2]string{first, first})
	w.tells(t, 1, false)
}

// twins: two images of one block that have one check: 33 bits that stand together, and are the whole pattern of the check, can be turned without its being another one.
func twins() (string, string) {
	text := make([]byte, 40)
	first := sealed(128, 5, block, gen, string(text))
	binary.LittleEndian.PutUint64(text[8:], 0x82F63B78<<1|1)
	return first, sealed(128, 5, block, gen, string(text))
}
