package grid

import (
	"synoptic/api"
	"synoptic/place"
)

const (
	vertices = 12
	lines    = api.MaxFrequency + 1
)

// point is a node as it is seen from a face: the weights of the corners of the face, in units of Unit / n, with the sum n.
type point struct{ face, a, b, c int }

// weights are the weights of all vertices in a node, in units of Unit / n: the same from whichever face it is seen.
type weights [vertices]int8

// lattice contains the nodes of a grid, in order, and for each face the index of each point, by a and b.
type lattice struct {
	nodes []api.Place
	index [api.Faces][lines][lines]int
}

// newLattice returns the lattice of a frequency.
func newLattice(n int) *lattice {
	l := &lattice{nodes: make([]api.Place, 0, Count(n))}
	border := map[weights]int{}
	// Points are entered in the order of places, so that each node is first entered where it is normal.
	for face := range api.Faces {
		for a := range n + 1 {
			for b := range n + 1 - a {
				l.index[face][a][b] = l.enter(point{face, a, b, n - a - b}, border)
			}
		}
	}
	return l
}

// enter returns the index of the node p: a new one, unless p is among those at the border of a face that are known from another face.
func (l *lattice) enter(p point, border map[weights]int) int {
	node := len(l.nodes)
	if p.a == 0 || p.b == 0 || p.c == 0 {
		of := weightsOf(p)
		if known, ok := border[of]; ok {
			return known
		}
		border[of] = node
	}
	h := api.Unit / (p.a + p.b + p.c)
	l.nodes = append(l.nodes, api.Place{Face: p.face, A: p.a * h, B: p.b * h, C: p.c * h})
	return node
}

// weightsOf returns the weights of all vertices in the node p.
func weightsOf(p point) weights {
	var of weights
	corners, _ := place.Corners(p.face)
	of[corners[0]], of[corners[1]], of[corners[2]] = int8(p.a), int8(p.b), int8(p.c)
	return of
}

// find returns the index of the node p.
func (l *lattice) find(p point) int {
	return l.index[p.face][p.a][p.b]
}

// triangle is a cell on a face: its corners towards A, B and C, or away from them.
type triangle [3]point

// upright returns the triangle that stands like its face. The weights of low have the sum n - 1.
func upright(low point) triangle {
	t := triangle{low, low, low}
	t[0].a++
	t[1].b++
	t[2].c++
	return t
}

// inverted returns the triangle that stands on its head. The weights of low have the sum n - 2.
func inverted(low point) triangle {
	high := point{low.face, low.a + 1, low.b + 1, low.c + 1}
	t := triangle{high, high, high}
	t[0].a--
	t[1].b--
	t[2].c--
	return t
}
