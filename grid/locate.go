package grid

import (
	"slices"

	"synoptic/api"
	"synoptic/place"
)

// Locate returns the nodes around a place with the weights, of the sum Unit, by which a value there is found from those at the nodes, ascending by Node; ErrRange if n is not a frequency or p is not valid.
func Locate(n int, p api.Place) ([]api.Share, api.Errno) {
	if !isFrequency(n) || !place.Valid(p) {
		return nil, api.ErrRange
	}
	h := api.Unit / n
	low := point{p.Face, p.A / h, p.B / h, p.C / h}
	x, y, z := p.A%h*n, p.B%h*n, p.C%h*n
	switch x + y + z {
	case 0:
		return shares(n, triangle{low, low, low}, [3]int{api.Unit, 0, 0}), api.OK
	case api.Unit:
		return shares(n, upright(low), [3]int{x, y, z}), api.OK
	default:
		return shares(n, inverted(low), [3]int{api.Unit - x, api.Unit - y, api.Unit - z}), api.OK
	}
}

// shares returns the corners of a triangle that have a weight, ascending.
func shares(n int, t triangle, of [3]int) []api.Share {
	l := newLattice(n)
	var all []api.Share
	for i, weight := range of {
		if weight > 0 {
			all = append(all, api.Share{Node: l.find(t[i]), Weight: weight})
		}
	}
	slices.SortFunc(all, func(s, t api.Share) int { return s.Node - t.Node })
	return all
}

// Nearest returns the node of Locate with the greatest weight, and the least of several; ErrRange if n is not a frequency or p is not valid.
func Nearest(n int, p api.Place) (int, api.Errno) {
	all, e := Locate(n, p)
	if e != api.OK {
		return 0, e
	}
	nearest := all[0]
	for _, s := range all {
		if s.Weight > nearest.Weight {
			nearest = s
		}
	}
	return nearest.Node, api.OK
}
