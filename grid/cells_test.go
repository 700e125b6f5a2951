package grid

import (
	"slices"
	"testing"

	"synoptic/api"
)

// P3.1: the edges of the icosahedron. The nodes 0 to 11 are the vertices 2, 1, 0, 3, 4, 5, 6, 7, 8, 9, 10 and 11.
func TestEdgesByHand(t *testing.T) {
	want := []api.Edge{
		{A: 0, B: 1}, {A: 0, B: 2}, {A: 0, B: 3}, {A: 0, B: 6}, {A: 0, B: 7},
		{A: 1, B: 2}, {A: 1, B: 5}, {A: 1, B: 6}, {A: 1, B: 10},
		{A: 2, B: 3}, {A: 2, B: 4}, {A: 2, B: 5},
		{A: 3, B: 4}, {A: 3, B: 7}, {A: 3, B: 8},
		{A: 4, B: 5}, {A: 4, B: 8}, {A: 4, B: 9},
		{A: 5, B: 9}, {A: 5, B: 10},
		{A: 6, B: 7}, {A: 6, B: 10}, {A: 6, B: 11},
		{A: 7, B: 8}, {A: 7, B: 11},
		{A: 8, B: 9}, {A: 8, B: 11},
		{A: 9, B: 10}, {A: 9, B: 11},
		{A: 10, B: 11},
	}
	if got, e := Edges(1); !slices.Equal(got, want) || e != api.OK {
		t.Errorf("Edges(1) = %v, %d, not %v", got, e, want)
	}
}

// P3.1: the faces of the icosahedron, and the first face for the frequency 2.
func TestCellsByHand(t *testing.T) {
	want := []api.Cell{
		{A: 0, B: 1, C: 2}, {A: 0, B: 1, C: 6}, {A: 0, B: 2, C: 3}, {A: 0, B: 3, C: 7}, {A: 0, B: 6, C: 7},
		{A: 1, B: 2, C: 5}, {A: 1, B: 5, C: 10}, {A: 1, B: 6, C: 10},
		{A: 2, B: 3, C: 4}, {A: 2, B: 4, C: 5},
		{A: 3, B: 4, C: 8}, {A: 3, B: 7, C: 8},
		{A: 4, B: 5, C: 9}, {A: 4, B: 8, C: 9},
		{A: 5, B: 9, C: 10},
		{A: 6, B: 7, C: 11}, {A: 6, B: 10, C: 11},
		{A: 7, B: 8, C: 11}, {A: 8, B: 9, C: 11}, {A: 9, B: 10, C: 11},
	}
	if got, e := Cells(1); !slices.Equal(got, want) || e != api.OK {
		t.Errorf("Cells(1) = %v, %d, not %v", got, e, want)
	}
	got, e := Cells(2)
	for _, c := range []api.Cell{{A: 0, B: 1, C: 3}, {A: 1, B: 2, C: 4}, {A: 1, B: 3, C: 4}, {A: 3, B: 4, C: 5}} {
		if !slices.Contains(got, c) || e != api.OK {
			t.Errorf("Cells(2) = %v, %d, without %v", got, e, c)
		}
	}
}

// P3.1
func TestEdges(t *testing.T) {
	for n := 1; n <= api.MaxFrequency; n++ {
		var want []api.Edge
		for a, near := range meshOf(n).near {
			for _, b := range near {
				if a < b {
					want = append(want, api.Edge{A: a, B: b})
				}
			}
		}
		if got, e := Edges(n); !slices.Equal(got, want) || len(got) != 30*n*n || e != api.OK {
			t.Errorf("Edges(%d) = %v, %d, not %v", n, got, e, want)
		}
	}
}

// P3.1
func TestCells(t *testing.T) {
	for n := 1; n <= api.MaxFrequency; n++ {
		m := meshOf(n)
		var want []api.Cell
		for a, near := range m.near {
			for _, b := range near {
				for _, c := range m.near[b] {
					if a < b && b < c && slices.Contains(near, c) && haveFace(m.of[a], m.of[b], m.of[c]) {
						want = append(want, api.Cell{A: a, B: b, C: c})
					}
				}
			}
		}
		if got, e := Cells(n); !slices.Equal(got, want) || len(got) != 20*n*n || e != api.OK {
			t.Errorf("Cells(%d) = %v, %d, not %v", n, got, e, want)
		}
	}
}

// The consequence: each edge belongs to two cells.
func TestEdgesOfCells(t *testing.T) {
	for n := 1; n <= api.MaxFrequency; n++ {
		cells, _ := Cells(n)
		times := map[api.Edge]int{}
		for _, c := range cells {
			times[api.Edge{A: c.A, B: c.B}]++
			times[api.Edge{A: c.A, B: c.C}]++
			times[api.Edge{A: c.B, B: c.C}]++
		}
		edges, _ := Edges(n)
		for _, e := range edges {
			if times[e] != 2 {
				t.Errorf("n = %d: the edge %v belongs to %d cells", n, e, times[e])
			}
		}
		if len(times) != len(edges) {
			t.Errorf("n = %d: the cells have %d edges, not %d", n, len(times), len(edges))
		}
	}
}

// P3.1
func TestEdgesAndCellsOutOfRange(t *testing.T) {
	for _, n := range noFrequencies {
		if got, e := Edges(n); len(got) != 0 || e != api.ErrRange {
			t.Errorf("Edges(%d) = %v, %d, not ErrRange", n, got, e)
		}
		if got, e := Cells(n); len(got) != 0 || e != api.ErrRange {
			t.Errorf("Cells(%d) = %v, %d, not ErrRange", n, got, e)
		}
	}
}

// checkNeighbours compares the neighbours of a node with what is expected.
func checkNeighbours(t *testing.T, n, node int, want []int) {
	t.Helper()
	if got, e := Neighbours(n, node); !slices.Equal(got, want) || e != api.OK {
		t.Errorf("Neighbours(%d, %d) = %v, %d, not %v", n, node, got, e, want)
	}
}

// P3.3
func TestNeighboursByHand(t *testing.T) {
	checkNeighbours(t, 1, 0, []int{1, 2, 3, 6, 7})
	checkNeighbours(t, 1, 2, []int{0, 1, 3, 4, 5})
	checkNeighbours(t, 1, 5, []int{1, 2, 4, 9, 10})
	checkNeighbours(t, 1, 11, []int{6, 7, 8, 9, 10})
	// The node 3 of the frequency 2 lies between the vertices 0 and 2.
	checkNeighbours(t, 2, 3, []int{0, 1, 4, 5, 7, 8})
}

// P3.3 and the consequence: the nodes with five neighbours are the vertices.
func TestNeighbours(t *testing.T) {
	for n := 1; n <= api.MaxFrequency; n++ {
		m := meshOf(n)
		for node, want := range m.near {
			checkNeighbours(t, n, node, want)
			count := 6
			if slices.Max(m.of[node][:]) == api.Unit {
				count = 5
			}
			if len(want) != count {
				t.Errorf("n = %d: the node %v has %d neighbours, not %d", n, m.nodes[node], len(want), count)
			}
		}
	}
}

// checkHops compares the hops between two nodes with what is expected.
func checkHops(t *testing.T, n, a, b, want int) {
	t.Helper()
	if got, e := Hops(n, a, b); got != want || e != api.OK {
		t.Errorf("Hops(%d, %d, %d) = %d, %d, not %d", n, a, b, got, e, want)
	}
}

// P3.3: from the vertex 0 to itself, to the vertices around it, to those around the opposite one, and to this one.
func TestHopsByHand(t *testing.T) {
	for n := 1; n <= api.MaxFrequency; n++ {
		m := meshOf(n)
		from := m.find(at(0, 840, 0, 0))
		checkHops(t, n, from, from, 0)
		for i := range 5 {
			checkHops(t, n, from, m.find(at(i, 0, 840, 0)), n)
			checkHops(t, n, from, m.find(at(5+i, 0, 840, 0)), 2*n)
		}
		checkHops(t, n, from, m.find(at(15, 840, 0, 0)), 3*n)
	}
}

// P3.3: between all nodes of small grids.
func TestHops(t *testing.T) {
	for n := 1; n <= 3; n++ {
		m := meshOf(n)
		for a := range m.nodes {
			for b, want := range m.hops(a) {
				checkHops(t, n, a, b, want)
			}
		}
	}
}

// P3.3: from some nodes of great grids, vertices and others, to all of them, and back.
func TestHopsOnGreatGrids(t *testing.T) {
	for n := 4; n <= api.MaxFrequency; n++ {
		m := meshOf(n)
		for _, a := range []int{0, 7, Count(n) / 2, Count(n) - 1} {
			for b, want := range m.hops(a) {
				checkHops(t, n, a, b, want)
				if b%7 == 0 {
					checkHops(t, n, b, a, want)
				}
			}
		}
	}
}

// checkNoNode expects that a node does not exist.
func checkNoNode(t *testing.T, n, node int) {
	t.Helper()
	if got, e := Neighbours(n, node); len(got) != 0 || e != api.ErrRange {
		t.Errorf("Neighbours(%d, %d) = %v, %d, not ErrRange", n, node, got, e)
	}
	for _, x := range [][2]int{{node, 0}, {0, node}, {node, node}} {
		if got, e := Hops(n, x[0], x[1]); got != 0 || e != api.ErrRange {
			t.Errorf("Hops(%d, %d, %d) = %d, %d, not ErrRange", n, x[0], x[1], got, e)
		}
	}
}

// P3.3
func TestNodesThatDoNotExist(t *testing.T) {
	for n := 1; n <= api.MaxFrequency; n++ {
		for _, node := range []int{-1, 10*n*n + 2, 10*n*n + 3, least, most} {
			checkNoNode(t, n, node)
		}
	}
	for _, n := range noFrequencies {
		for _, node := range []int{0, 1, 11, -1, 642, least, most} {
			checkNoNode(t, n, node)
		}
	}
}

// Rule 2: results are new memory.
func TestResultsAreNew(t *testing.T) {
	nodes, _ := Nodes(2)
	edges, _ := Edges(2)
	cells, _ := Cells(2)
	near, _ := Neighbours(2, 3)
	clear(nodes)
	clear(edges)
	clear(cells)
	clear(near)
	nodes, _ = Nodes(2)
	edges, _ = Edges(2)
	cells, _ = Cells(2)
	near, _ = Neighbours(2, 3)
	if nodes[5] != at(0, 840, 0, 0) || edges[0] != (api.Edge{A: 0, B: 1}) || cells[0] != (api.Cell{A: 0, B: 1, C: 3}) || near[1] != 1 {
		t.Errorf("after a change of earlier results: %v, %v, %v, %v", nodes, edges, cells, near)
	}
}
