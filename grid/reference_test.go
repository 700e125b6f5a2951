package grid

import (
	"cmp"
	"slices"

	"synoptic/api"
)

const (
	least = -1 << 63
	most  = 1<<63 - 1
)

// faces holds the corners of all faces, written out.
var faces = [api.Faces][3]int{
	{0, 1, 2}, {0, 2, 3}, {0, 3, 4}, {0, 4, 5}, {0, 5, 1},
	{1, 6, 2}, {2, 7, 3}, {3, 8, 4}, {4, 9, 5}, {5, 10, 1},
	{6, 7, 2}, {7, 8, 3}, {8, 9, 4}, {9, 10, 5}, {10, 6, 1},
	{11, 7, 6}, {11, 8, 7}, {11, 9, 8}, {11, 10, 9}, {11, 6, 10},
}

var noFrequencies = []int{0, -1, -8, 9, 10, 840, least, least + 1, most}

var notValid = []api.Place{
	{},
	at(-1, 840, 0, 0),
	at(20, 840, 0, 0),
	at(least, 0, 0, 840),
	at(3, 0, 0, 839),
	at(3, 0, 0, 841),
	at(3, -1, 841, 0),
	at(3, 840, 840, -840),
	at(3, 280, 280, 281),
	at(3, most, most, 842),
	at(3, least, least, 840),
}

func at(face, a, b, c int) api.Place {
	return api.Place{Face: face, A: a, B: b, C: c}
}

// on returns the place of a face of which A and B are given.
func on(face, a, b int) api.Place {
	return at(face, a, b, api.Unit-a-b)
}

// byVertex returns the weight of each vertex in a valid place.
func byVertex(p api.Place) [12]int {
	var w [12]int
	for i, n := range []int{p.A, p.B, p.C} {
		w[faces[p.Face][i]] = n
	}
	return w
}

// places returns the places on all faces of which A and B are among some weights.
func places(some ...int) []api.Place {
	var all []api.Place
	for face := range faces {
		for _, a := range some {
			for _, b := range some {
				if a+b <= api.Unit {
					all = append(all, on(face, a, b))
				}
			}
		}
	}
	return all
}

// multiples returns the multiples of Unit / n up to Unit, descending.
func multiples(n int) []int {
	var all []int
	for k := n; k >= 0; k-- {
		all = append(all, api.Unit*k/n)
	}
	return all
}

// mesh is a grid that follows from the weights of the vertices alone.
type mesh struct {
	nodes []api.Place
	of    [][12]int
	near  [][]int
}

// meshOf returns the mesh of a frequency.
func meshOf(n int) mesh {
	normal := map[[12]int]api.Place{}
	for _, p := range places(multiples(n)...) {
		if q, ok := normal[byVertex(p)]; !ok || p.Face < q.Face {
			normal[byVertex(p)] = p
		}
	}
	var m mesh
	for _, p := range normal {
		m.nodes = append(m.nodes, p)
	}
	slices.SortFunc(m.nodes, func(p, q api.Place) int {
		return cmp.Or(p.Face-q.Face, p.A-q.A, p.B-q.B, p.C-q.C)
	})
	for _, p := range m.nodes {
		m.of = append(m.of, byVertex(p))
	}
	m.near = make([][]int, len(m.nodes))
	for a := range m.nodes {
		for b := range m.nodes {
			if a != b && isStep(m.of[a], m.of[b], api.Unit/n) && haveFace(m.of[a], m.of[b]) {
				m.near[a] = append(m.near[a], b)
			}
		}
	}
	return m
}

// isStep reports whether one vertex has h more and one h less in a place than in another, and all others the same.
func isStep(p, q [12]int, h int) bool {
	more, less := 0, 0
	for v := range p {
		switch p[v] - q[v] {
		case 0:
		case h:
			more++
		case -h:
			less++
		default:
			return false
		}
	}
	return more == 1 && less == 1
}

// haveFace reports whether places are on one face.
func haveFace(all ...[12]int) bool {
	return slices.ContainsFunc(faces[:], func(c [3]int) bool {
		return !slices.ContainsFunc(all, func(w [12]int) bool {
			return w[c[0]]+w[c[1]]+w[c[2]] != api.Unit
		})
	})
}

// hops returns the hops from a node to each node.
func (m mesh) hops(from int) []int {
	all := make([]int, len(m.nodes))
	for i := range all {
		all[i] = most
	}
	all[from] = 0
	for changed := true; changed; {
		changed = false
		for a, near := range m.near {
			for _, b := range near {
				if all[a] != most && all[a]+1 < all[b] {
					all[b], changed = all[a]+1, true
				}
			}
		}
	}
	return all
}

// find returns the index of the node that is the same as p, and -1 if there is none.
func (m mesh) find(p api.Place) int {
	return slices.Index(m.of, byVertex(p))
}
