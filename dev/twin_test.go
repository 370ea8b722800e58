package dev

import (
	"slices"
	"strings"
	"testing"

	"treenail/api"
)

// twin is a second maker of the same answers, after the chapter's words: it keeps all that was written, forgets nothing, and counts up where the program counts down.
type twin struct {
	media            [][]byte
	written          []*entry
	bad              map[int]bool
	off, dead        bool
	tried, fuse      int
	told, lose       int
	stray, to        int
	reads, flushings int
}

type entry struct {
	sector int
	bytes  []byte
	waits  bool // in the cache
}

func newTwin() *twin {
	w := &twin{bad: map[int]bool{}}
	for range sectors {
		w.media = append(w.media, make([]byte, size))
	}
	return w
}

func (w *twin) there(i int) bool { return 0 <= i && i < sectors }

func (w *twin) read(i int) (string, api.Errno) {
	switch {
	case w.off:
		return "", api.ErrPower
	case w.dead:
		return "", api.ErrLost
	case !w.there(i):
		return "", api.ErrRange
	case w.bad[i]:
		return "", api.ErrMedia
	}
	w.reads++
	now := w.media[i]
	for _, x := range w.written {
		if x.waits && x.sector == i {
			now = x.bytes
		}
	}
	return string(now), api.OK
}

func (w *twin) write(i int, s string) api.Errno {
	switch {
	case w.off:
		return api.ErrPower
	case w.dead:
		return api.ErrLost
	case !w.there(i):
		return api.ErrRange
	case len(s) != size:
		return api.ErrArg
	}
	if w.fails() {
		return api.ErrPower
	}
	if w.bad[i] {
		return api.ErrMedia
	}
	w.told++
	if w.told == w.stray {
		i = w.to
	}
	if w.told != w.lose && w.there(i) && !w.bad[i] {
		w.written = append(w.written, &entry{i, []byte(s), true})
	}
	return api.OK
}

func (w *twin) fails() bool {
	w.tried++
	w.off = w.tried == w.fuse
	return w.off
}

func (w *twin) flush() api.Errno {
	switch {
	case w.off:
		return api.ErrPower
	case w.dead:
		return api.ErrLost
	case w.fails():
		return api.ErrPower
	}
	w.flushings++
	for _, x := range w.waiting() {
		w.media[x.sector], x.waits = x.bytes, false
	}
	return api.OK
}

func (w *twin) waiting() []*entry {
	var list []*entry
	for _, x := range w.written {
		if x.waits {
			list = append(list, x)
		}
	}
	return list
}

func (w *twin) crash(fates []Fate) {
	for k, x := range w.waiting() {
		x.waits = false
		if k >= len(fates) {
			continue
		}
		for at := range size {
			if fates[k] == Keep || at < size-1 && Fate(at) < fates[k]-Tear {
				w.media[x.sector][at] = x.bytes[at]
			}
		}
	}
	w.off, w.fuse = false, 0
}

func (w *twin) stick(i int) {
	w.bad[i] = true
	for _, x := range w.written {
		x.waits = x.waits && x.sector != i
	}
}

func (w *twin) garble(i, at int, by byte) {
	if !w.there(i) || at < 0 {
		return
	}
	w.media[i][at%size] ^= by
	for _, x := range w.waiting() {
		if x.sector == i {
			x.bytes[at%size] ^= by
		}
	}
}

// from: the number at which the n-th from now on stands, of which so many were; 0, if none does.
func from(now, n int) int {
	if n < 1 {
		return 0
	}
	return now + n
}

// dice tells numbers that differ from walk to walk, and are the same in each run.
type dice uint32

func (n *dice) upTo(most int) int {
	*n = *n*1664525 + 1013904223
	return int(uint32(*n)>>8) % most
}

func (n *dice) sector() int { return n.upTo(sectors+2) - 1 }

func (n *dice) text() string {
	if n.upTo(20) == 0 {
		return "short"
	}
	return strings.Repeat(string([]byte{byte('a' + n.upTo(26))}), size)
}

func (n *dice) fates() []Fate {
	var list []Fate
	for range n.upTo(12) {
		list = append(list, Fate(n.upTo(6)-1), Tear+Fate(n.upTo(size+3)))
	}
	return list
}

// step does one thing to both, and tells what both answer.
func step(n *dice, d *Device, w *twin) (string, api.Errno, string, api.Errno) {
	i := n.sector()
	switch n.upTo(13) {
	case 0, 1, 2, 3, 4:
		s := n.text()
		return "", d.Write(i, s), "", w.write(i, s)
	case 5, 6, 7:
		got, e := d.Read(i)
		want, f := w.read(i)
		return got, e, want, f
	case 8:
		return "", d.Flush(), "", w.flush()
	case 9:
		fates := n.fates()
		d.Crash(fates)
		w.crash(fates)
	default:
		fault(n, i, d, w)
	}
	return "", 0, "", 0
}

func fault(n *dice, i int, d *Device, w *twin) {
	k := n.upTo(6) - 1
	switch n.upTo(20) {
	case 0:
		d.Stick(i)
		w.stick(i)
	case 1, 2, 3, 4:
		at, by := n.upTo(3*size)-size/2, byte(n.upTo(256))
		d.Garble(i, at, by)
		w.garble(i, at, by)
	case 5, 6, 7, 8:
		d.Lose(k)
		w.lose = from(w.told, k)
	case 9, 10, 11, 12:
		d.Stray(k, i)
		w.stray, w.to = from(w.told, k), i
	case 13:
		if n.upTo(30) == 0 {
			d.Kill()
			w.dead = true
		}
	default:
		d.Fuse(k)
		w.fuse = from(w.tried, k)
	}
}

// TestTwin: in long walks through all calls, all is told as the second maker tells it.
func TestTwin(t *testing.T) {
	for seed := range 300 {
		n := dice(seed * 7919)
		d, w := small(t), newTwin()
		for k := range 400 {
			got, e, want, f := step(&n, d, w)
			if got != want || e != f {
				t.Fatalf("walk %d, step %d: %q, %v, not %q, %v", seed, k, got, e, want, f)
			}
			if !alike(d, w) {
				t.Fatalf("walk %d, step %d: off %v, gone %v", seed, k, d.Off(), d.Dead())
			}
		}
	}
}

func alike(d *Device, w *twin) bool {
	reads, writes, flushes := d.Count()
	same := slices.Equal([]int{reads, writes, flushes}, []int{w.reads, w.told, w.flushings})
	for i := range sectors {
		same = same && d.Media(i) == string(w.media[i])
	}
	return same && d.Off() == w.off && d.Dead() == w.dead
}
