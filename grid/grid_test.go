package grid

import (
	"slices"
	"testing"

	"synoptic/api"
)

// P3.1
func TestCount(t *testing.T) {
	for i, want := range []int{12, 42, 92, 162, 252, 362, 492, 642} {
		if got := Count(i + 1); got != want {
			t.Errorf("Count(%d) = %d, not %d", i+1, got, want)
		}
	}
	for _, n := range noFrequencies {
		if got := Count(n); got != 0 {
			t.Errorf("Count(%d) = %d, not 0", n, got)
		}
	}
}

// P3.1: the nodes of the frequency 1, which are the vertices 2, 1, 0, 3 and so on.
func TestNodesByHand(t *testing.T) {
	want := []api.Place{
		at(0, 0, 0, 840), at(0, 0, 840, 0), at(0, 840, 0, 0),
		at(1, 0, 0, 840), at(2, 0, 0, 840), at(3, 0, 0, 840),
		at(5, 0, 840, 0), at(6, 0, 840, 0), at(7, 0, 840, 0), at(8, 0, 840, 0), at(9, 0, 840, 0),
		at(15, 840, 0, 0),
	}
	if got, e := Nodes(1); !slices.Equal(got, want) || e != api.OK {
		t.Errorf("Nodes(1) = %v, %d, not %v", got, e, want)
	}
	want = []api.Place{
		at(0, 0, 0, 840), at(0, 0, 420, 420), at(0, 0, 840, 0), at(0, 420, 0, 420), at(0, 420, 420, 0), at(0, 840, 0, 0),
		at(1, 0, 0, 840), at(1, 0, 420, 420), at(1, 420, 0, 420),
	}
	if got, e := Nodes(2); len(got) != 42 || !slices.Equal(got[:9], want) || e != api.OK {
		t.Errorf("Nodes(2) = %v, %d, not %v and so on", got, e, want)
	}
}

// P3.1
func TestNodes(t *testing.T) {
	for n := 1; n <= api.MaxFrequency; n++ {
		want := meshOf(n).nodes
		if got, e := Nodes(n); !slices.Equal(got, want) || len(got) != Count(n) || e != api.OK {
			t.Errorf("Nodes(%d) = %v, %d, not %v", n, got, e, want)
		}
	}
	for _, n := range noFrequencies {
		if got, e := Nodes(n); len(got) != 0 || e != api.ErrRange {
			t.Errorf("Nodes(%d) = %v, %d, not ErrRange", n, got, e)
		}
	}
}

// checkIndex compares the index of a place with what is expected.
func checkIndex(t *testing.T, n int, p api.Place, want int, wantErrno api.Errno) {
	t.Helper()
	if got, e := Index(n, p); got != want || e != wantErrno {
		t.Errorf("Index(%d, %v) = %d, %d, not %d, %d", n, p, got, e, want, wantErrno)
	}
}

// P3.2: nodes have one index on all faces.
func TestIndex(t *testing.T) {
	for n := 1; n <= api.MaxFrequency; n++ {
		m := meshOf(n)
		for i, p := range m.nodes {
			checkIndex(t, n, p, i, api.OK)
		}
		for _, p := range places(multiples(n)...) {
			checkIndex(t, n, p, m.find(p), api.OK)
		}
	}
}

// P3.2: the vertex 2 from its five faces, and the middle of an edge from both.
func TestIndexByHand(t *testing.T) {
	for _, p := range []api.Place{at(0, 0, 0, 840), at(1, 0, 840, 0), at(5, 0, 0, 840), at(6, 840, 0, 0), at(10, 0, 0, 840)} {
		for n := 1; n <= api.MaxFrequency; n++ {
			checkIndex(t, n, p, 0, api.OK)
		}
	}
	checkIndex(t, 1, at(17, 840, 0, 0), 11, api.OK)
	checkIndex(t, 2, at(0, 420, 0, 420), 3, api.OK)
	checkIndex(t, 2, at(1, 420, 420, 0), 3, api.OK)
}

// P3.2: places that are not nodes, near nodes and at nodes of other frequencies.
func TestIndexOfOtherPlaces(t *testing.T) {
	for n := 1; n <= api.MaxFrequency; n++ {
		h := api.Unit / n
		for _, p := range places(0, 1, h-1, h, h+1, 105, 120, 140, 168, 210, 280, 419, 420, 421, 839, 840) {
			if p.A%h != 0 || p.B%h != 0 {
				checkIndex(t, n, p, 0, api.ErrNone)
			}
		}
	}
	checkIndex(t, 1, at(0, 420, 420, 0), 0, api.ErrNone)
	checkIndex(t, 2, at(0, 420, 419, 1), 0, api.ErrNone)
	checkIndex(t, 2, at(0, 419, 420, 1), 0, api.ErrNone)
	checkIndex(t, 2, at(0, 1, 419, 420), 0, api.ErrNone)
}

// P3.2: ErrRange comes first.
func TestIndexOutOfRange(t *testing.T) {
	for _, n := range noFrequencies {
		for _, p := range []api.Place{at(0, 840, 0, 0), at(0, 1, 2, 837), {}} {
			checkIndex(t, n, p, 0, api.ErrRange)
		}
	}
	for n := 1; n <= api.MaxFrequency; n++ {
		for _, p := range notValid {
			checkIndex(t, n, p, 0, api.ErrRange)
		}
	}
}
