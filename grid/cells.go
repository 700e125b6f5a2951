package grid

import (
	"cmp"
	"slices"

	"synoptic/api"
)

const (
	edgesAtNode = 6
	sides       = 3
)

// cellNodes returns the nodes of each cell of a grid, in no special order.
func cellNodes(n int) [][sides]int {
	l := newLattice(n)
	all := make([][sides]int, 0, api.Faces*n*n)
	add := func(t triangle) {
		all = append(all, [sides]int{l.find(t[0]), l.find(t[1]), l.find(t[2])})
	}
	for face := range api.Faces {
		for a := range n {
			for b := range n - a {
				c := n - 1 - a - b
				add(upright(point{face, a, b, c}))
				if c > 0 {
					add(inverted(point{face, a, b, c - 1}))
				}
			}
		}
	}
	return all
}

// Cells returns the cells of a grid, ascending by A, B and C; ErrRange if n is not a frequency.
func Cells(n int) ([]api.Cell, api.Errno) {
	if !isFrequency(n) {
		return nil, api.ErrRange
	}
	all := make([]api.Cell, 0, api.Faces*n*n)
	for _, nodes := range cellNodes(n) {
		slices.Sort(nodes[:])
		all = append(all, api.Cell{A: nodes[0], B: nodes[1], C: nodes[2]})
	}
	slices.SortFunc(all, func(c, d api.Cell) int {
		return cmp.Or(cmp.Compare(c.A, d.A), cmp.Compare(c.B, d.B), cmp.Compare(c.C, d.C))
	})
	return all, api.OK
}

// links returns the neighbours of each node of a grid, ascending.
func links(n int) [][]int {
	all := make([][]int, Count(n))
	for node := range all {
		all[node] = make([]int, 0, edgesAtNode)
	}
	for _, nodes := range cellNodes(n) {
		for i, a := range nodes {
			b := nodes[(i+1)%sides]
			link(all, a, b)
			link(all, b, a)
		}
	}
	for _, near := range all {
		slices.Sort(near)
	}
	return all
}

// link makes b a neighbour of a, unless the other cell of their edge has done so.
func link(all [][]int, a, b int) {
	if !slices.Contains(all[a], b) {
		all[a] = append(all[a], b)
	}
}

// Edges returns the edges of a grid, ascending by A and then B; ErrRange if n is not a frequency.
func Edges(n int) ([]api.Edge, api.Errno) {
	if !isFrequency(n) {
		return nil, api.ErrRange
	}
	all := make([]api.Edge, 0, 30*n*n)
	for a, near := range links(n) {
		for _, b := range near {
			if a < b {
				all = append(all, api.Edge{A: a, B: b})
			}
		}
	}
	return all, api.OK
}

// Neighbours returns the neighbours of a node, ascending; ErrRange if n is not a frequency or there is no such node.
func Neighbours(n, node int) ([]int, api.Errno) {
	if !isNode(n, node) {
		return nil, api.ErrRange
	}
	return links(n)[node], api.OK
}

// Hops returns the least number of edges that lead from one node to another; ErrRange if n is not a frequency or there is no such node.
func Hops(n, a, b int) (int, api.Errno) {
	if !isNode(n, a) || !isNode(n, b) {
		return 0, api.ErrRange
	}
	near := links(n)
	seen := make([]bool, len(near))
	seen[a] = true
	hops := 0
	for ring := []int{a}; !seen[b]; hops++ {
		ring = spread(ring, near, seen)
	}
	return hops, api.OK
}

// spread returns the neighbours of a ring of nodes that have not been seen, and marks them as seen.
func spread(ring []int, near [][]int, seen []bool) []int {
	var found []int
	for _, node := range ring {
		for _, other := range near[node] {
			if !seen[other] {
				seen[other] = true
				found = append(found, other)
			}
		}
	}
	return found
}
