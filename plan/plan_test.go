package plan

import "testing"

// P18.1: NodeBytes, LeafBytes, Least.

func isOfBytes(t *testing.T, p Plan, nodeBytes, leafBytes int) {
	t.Helper()
	if n, f := p.NodeBytes(), p.LeafBytes(); n != nodeBytes || f != leafBytes {
		t.Errorf("of %v: %d, %d, not %d, %d", p, n, f, nodeBytes, leafBytes)
	}
}

// TestBytesOfSome: written out.
func TestBytesOfSome(t *testing.T) {
	for _, x := range []struct {
		p                    Plan
		nodeBytes, leafBytes int
	}{
		{Plan{3, 3, 2}, 253, 100},
		{Plan{3, 3, 5}, 253, 250},
		{Plan{3, 4, 2}, 304, 100},
		{Plan{3, 64, 3}, 3364, 150},
		{Plan{4, 4, 2}, 337, 100},
		{Plan{4, 16, 20}, 949, 1000},
		{Plan{4, 17, 20}, 1000, 1000},
		{Plan{8, 20, 13}, 1285, 650},
		{Plan{15, 15, 63}, 1261, 3150},
		{Plan{16, 16, 2}, 1345, 100},
		{Plan{16, 63, 64}, 3742, 3200},
		{Plan{16, 64, 64}, 3793, 3200},
	} {
		isOfBytes(t, x.p, x.nodeBytes, x.leafBytes)
	}
}

// TestBytesAreThoseLaid: of all plans that may be.
func TestBytesAreThoseLaid(t *testing.T) {
	w := newTwin(t)
	for _, all := range w.all {
		for _, p := range all {
			isOfBytes(t, p, w.nodeBytes(p), w.leafBytes(p))
		}
	}
}

// TestBytesOfEachLimit: nought, if one place alone is beyond, and if all are.
func TestBytesOfEachLimit(t *testing.T) {
	w := newTwin(t)
	var may, mayNot int
	for _, p := range widePlans() {
		isOfBytes(t, p, w.nodeBytes(p), w.leafBytes(p))
		if n := p.Least(); n != w.least(p) {
			t.Errorf("Least of %v: %d, not %d", p, n, w.least(p))
		}
		if w.may[p] {
			may++
		} else {
			mayNot++
		}
	}
	if may < 100 || mayNot < 10000 {
		t.Errorf("%d and %d", may, mayNot)
	}
}

// TestPlansThatMayNotBe: written out, each beyond one limit alone, and beside each one that may be.
func TestPlansThatMayNotBe(t *testing.T) {
	for _, x := range []struct {
		p   Plan
		may bool
	}{
		{Plan{}, false},
		{Plan{2, 8, 8}, false},
		{Plan{2, 2, 8}, false},
		{Plan{3, 8, 8}, true},
		{Plan{16, 20, 8}, true},
		{Plan{17, 20, 8}, false},
		{Plan{17, 17, 8}, false},
		{Plan{3, 2, 8}, false},
		{Plan{3, 3, 8}, true},
		{Plan{16, 15, 8}, false},
		{Plan{16, 16, 8}, true},
		{Plan{4, 64, 8}, true},
		{Plan{4, 65, 8}, false},
		{Plan{4, 8, 1}, false},
		{Plan{4, 8, 2}, true},
		{Plan{4, 8, 64}, true},
		{Plan{4, 8, 65}, false},
		{Plan{0, 8, 8}, false},
		{Plan{4, 0, 8}, false},
		{Plan{4, 8, 0}, false},
		{Plan{-4, 8, 8}, false},
		{Plan{4, -8, 8}, false},
		{Plan{4, 8, -8}, false},
		{Plan{-4, -4, 8}, false},
		{Plan{least, 8, 8}, false},
		{Plan{4, least, 8}, false},
		{Plan{4, 8, least}, false},
		{Plan{greatest, 8, 8}, false},
		{Plan{4, greatest, 8}, false},
		{Plan{4, 8, greatest}, false},
		{Plan{greatest, greatest, 8}, false},
		{Plan{least, least, least}, false},
		{Plan{greatest, greatest, greatest}, false},
	} {
		if (x.p.NodeBytes() != 0) != x.may || (x.p.LeafBytes() != 0) != x.may || (x.p.Least() != 0) != x.may {
			t.Errorf("of %v: %d, %d, %d", x.p, x.p.NodeBytes(), x.p.LeafBytes(), x.p.Least())
		}
	}
}

// TestLeastOfSome: written out.
func TestLeastOfSome(t *testing.T) {
	for _, x := range []struct {
		p    Plan
		want int
	}{
		{Plan{3, 3, 2}, 1},
		{Plan{3, 5, 2}, 1},
		{Plan{3, 6, 2}, 2},
		{Plan{3, 64, 2}, 21},
		{Plan{4, 15, 20}, 3},
		{Plan{4, 16, 20}, 4},
		{Plan{5, 64, 64}, 12},
		{Plan{16, 16, 3}, 1},
		{Plan{16, 31, 3}, 1},
		{Plan{16, 32, 3}, 2},
		{Plan{16, 63, 64}, 3},
		{Plan{16, 64, 64}, 4},
	} {
		if n := x.p.Least(); n != x.want {
			t.Errorf("Least of %v: %d, not %d", x.p, n, x.want)
		}
	}
}

// TestLeastOfAll: of each Fanout and Buffer that may be together, whatever the Leaf.
func TestLeastOfAll(t *testing.T) {
	w := newTwin(t)
	for _, all := range w.all {
		for _, p := range all {
			if n := p.Least(); n != w.least(p) || n < 1 {
				t.Errorf("Least of %v: %d, not %d", p, n, w.least(p))
			}
		}
	}
}
