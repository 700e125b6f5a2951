package grid

import (
	"slices"
	"testing"

	"synoptic/api"
	"synoptic/place"
)

// P3.4: the examples, and places in an upright and in an inverted cell. For the frequency 2, the nodes 0 to 5 are those of the face 0; for 1, they are the vertices 2, 1, 0, 3, 4 and 5.
func TestLocateByHand(t *testing.T) {
	for _, x := range []struct {
		n       int
		p       api.Place
		want    []api.Share
		nearest int
	}{
		{2, at(0, 840, 0, 0), []api.Share{{Node: 5, Weight: 840}}, 5},
		{2, at(3, 840, 0, 0), []api.Share{{Node: 5, Weight: 840}}, 5},
		{2, at(0, 630, 210, 0), []api.Share{{Node: 4, Weight: 420}, {Node: 5, Weight: 420}}, 4},
		{2, at(0, 211, 629, 0), []api.Share{{Node: 2, Weight: 418}, {Node: 4, Weight: 422}}, 4},
		{2, at(0, 420, 0, 420), []api.Share{{Node: 3, Weight: 840}}, 3},
		{2, at(0, 280, 280, 280), []api.Share{{Node: 1, Weight: 280}, {Node: 3, Weight: 280}, {Node: 4, Weight: 280}}, 1},
		{2, at(0, 270, 280, 290), []api.Share{{Node: 1, Weight: 300}, {Node: 3, Weight: 280}, {Node: 4, Weight: 260}}, 1},
		{2, at(0, 419, 419, 2), []api.Share{{Node: 1, Weight: 2}, {Node: 3, Weight: 2}, {Node: 4, Weight: 836}}, 4},
		{2, at(0, 100, 100, 640), []api.Share{{Node: 0, Weight: 440}, {Node: 1, Weight: 200}, {Node: 3, Weight: 200}}, 0},
		{2, at(0, 200, 200, 440), []api.Share{{Node: 0, Weight: 40}, {Node: 1, Weight: 400}, {Node: 3, Weight: 400}}, 1},
		{2, at(0, 140, 140, 560), []api.Share{{Node: 0, Weight: 280}, {Node: 1, Weight: 280}, {Node: 3, Weight: 280}}, 0},
		{2, at(0, 700, 70, 70), []api.Share{{Node: 3, Weight: 140}, {Node: 4, Weight: 140}, {Node: 5, Weight: 560}}, 5},
		{1, at(0, 1, 2, 837), []api.Share{{Node: 0, Weight: 837}, {Node: 1, Weight: 2}, {Node: 2, Weight: 1}}, 0},
		{1, at(2, 400, 20, 420), []api.Share{{Node: 2, Weight: 400}, {Node: 3, Weight: 20}, {Node: 4, Weight: 420}}, 4},
		{1, at(4, 0, 420, 420), []api.Share{{Node: 1, Weight: 420}, {Node: 5, Weight: 420}}, 1},
		{1, at(9, 420, 0, 420), []api.Share{{Node: 1, Weight: 420}, {Node: 5, Weight: 420}}, 1},
		{8, at(0, 0, 26, 814), []api.Share{{Node: 0, Weight: 632}, {Node: 1, Weight: 208}}, 0},
		{8, at(0, 1, 104, 735), []api.Share{{Node: 1, Weight: 832}, {Node: 9, Weight: 8}}, 1},
	} {
		if got, e := Locate(x.n, x.p); !slices.Equal(got, x.want) || e != api.OK {
			t.Errorf("Locate(%d, %v) = %v, %d, not %v", x.n, x.p, got, e, x.want)
		}
		if got, e := Nearest(x.n, x.p); got != x.nearest || e != api.OK {
			t.Errorf("Nearest(%d, %v) = %d, %d, not %d", x.n, x.p, got, e, x.nearest)
		}
	}
}

// isPart reports whether nodes with weights are those of a cell, or part of one, strictly ascending, with positive weights of the sum Unit.
func (m mesh) isPart(all []api.Share) bool {
	sum := 0
	var of [][12]int
	for i, s := range all {
		if s.Node < 0 || s.Node >= len(m.nodes) || s.Weight <= 0 || s.Weight > api.Unit {
			return false
		}
		for _, before := range all[:i] {
			if before.Node >= s.Node || !slices.Contains(m.near[s.Node], before.Node) {
				return false
			}
		}
		sum += s.Weight
		of = append(of, m.of[s.Node])
	}
	return sum == api.Unit && len(all) <= 3 && haveFace(of...)
}

// mean returns Unit times the weights of the vertices that nodes have by their weights.
func (m mesh) mean(all []api.Share) [12]int {
	var sum [12]int
	for _, s := range all {
		for v, w := range m.of[s.Node] {
			sum[v] += s.Weight * w
		}
	}
	return sum
}

// checkLocate compares the weights of the nodes around p with p itself: only one part of one cell gives it.
func checkLocate(t *testing.T, n int, m mesh, p api.Place) []api.Share {
	t.Helper()
	got, e := Locate(n, p)
	if e != api.OK || !m.isPart(got) {
		t.Errorf("Locate(%d, %v) = %v, %d, which is no part of a cell", n, p, got, e)
		return got
	}
	want := byVertex(p)
	for v := range want {
		want[v] *= api.Unit
	}
	if m.mean(got) != want {
		t.Errorf("Locate(%d, %v) = %v, which is another place", n, p, got)
	}
	return got
}

// checkNearest looks for the node with the greatest weight.
func checkNearest(t *testing.T, n int, p api.Place, all []api.Share) {
	t.Helper()
	weight, want := 0, most
	for _, s := range all {
		weight = max(weight, s.Weight)
	}
	for _, s := range all {
		if s.Weight == weight {
			want = min(want, s.Node)
		}
	}
	if got, e := Nearest(n, p); got != want || e != api.OK {
		t.Errorf("Nearest(%d, %v) = %d, %d, not %d", n, p, got, e, want)
	}
}

// P3.4: places inside of cells, on their edges and at nodes, and next to them.
func TestLocate(t *testing.T) {
	for n := 1; n <= api.MaxFrequency; n++ {
		m := meshOf(n)
		h := api.Unit / n
		some := []int{0, 1, h / 3, h / 2, h - 1, h, 211, 280, 420, 839, 840}
		slices.Sort(some)
		for _, p := range places(slices.Compact(some)...) {
			all := checkLocate(t, n, m, p)
			if len(all) > 0 {
				checkNearest(t, n, p, all)
			}
		}
	}
}

// P3.4: all nodes have the whole weight, on all of their faces.
func TestLocateNodes(t *testing.T) {
	for n := 1; n <= api.MaxFrequency; n++ {
		m := meshOf(n)
		for _, p := range places(multiples(n)...) {
			want := []api.Share{{Node: m.find(p), Weight: api.Unit}}
			if got, e := Locate(n, p); !slices.Equal(got, want) || e != api.OK {
				t.Errorf("Locate(%d, %v) = %v, %d, not %v", n, p, got, e, want)
			}
		}
	}
}

// P3.4: all addresses of a place give the same result.
func TestLocateFromAllFaces(t *testing.T) {
	for n := 1; n <= api.MaxFrequency; n++ {
		for face := range faces {
			for _, k := range []int{0, 1, 104, 105, 119, 137, 300, 419, 420, 700, 839} {
				for _, p := range []api.Place{at(face, 0, k, 840-k), at(face, k, 840-k, 0), at(face, 840-k, 0, k)} {
					checkAddresses(t, n, p)
				}
			}
		}
	}
}

// checkAddresses compares what Locate and Nearest return for the addresses of a place.
func checkAddresses(t *testing.T, n int, p api.Place) {
	t.Helper()
	want, _ := Locate(n, p)
	nearest, _ := Nearest(n, p)
	all, _ := place.Addresses(p)
	for _, q := range all {
		if got, e := Locate(n, q); !slices.Equal(got, want) || e != api.OK {
			t.Errorf("Locate(%d, %v) = %v, %d, not %v as for %v", n, q, got, e, want, p)
		}
		if got, e := Nearest(n, q); got != nearest || e != api.OK {
			t.Errorf("Nearest(%d, %v) = %d, %d, not %d as for %v", n, q, got, e, nearest, p)
		}
	}
}

// checkNotLocated expects that a place is not found.
func checkNotLocated(t *testing.T, n int, p api.Place) {
	t.Helper()
	if got, e := Locate(n, p); len(got) != 0 || e != api.ErrRange {
		t.Errorf("Locate(%d, %v) = %v, %d, not ErrRange", n, p, got, e)
	}
	if got, e := Nearest(n, p); got != 0 || e != api.ErrRange {
		t.Errorf("Nearest(%d, %v) = %d, %d, not ErrRange", n, p, got, e)
	}
}

// P3.4
func TestLocateOutOfRange(t *testing.T) {
	for _, n := range noFrequencies {
		for _, p := range []api.Place{at(0, 840, 0, 0), at(19, 1, 2, 837), {}} {
			checkNotLocated(t, n, p)
		}
	}
	for n := 1; n <= api.MaxFrequency; n++ {
		for _, p := range notValid {
			checkNotLocated(t, n, p)
		}
	}
}
