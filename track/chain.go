package track

import (
	"slices"

	"synoptic/api"
	"synoptic/grid"
)

const (
	day      = 1440 // minutes
	mostHops = 1000
)

// sighting is what a report says of its station, and the index of the report.
type sighting struct {
	name              string
	time, node, index int
}

// sightings returns the sightings of the reports with the wanted kinds; ErrRange if hops is out of range, or one of their places is not valid, or a Time out of range.
func sightings(l []api.Report, hops int, wanted func(kind int) bool) ([]sighting, api.Errno) {
	if hops < 0 || hops > mostHops {
		return nil, api.ErrRange
	}
	var all []sighting
	for i, r := range l {
		if !wanted(r.Kind) {
			continue
		}
		node, e := grid.Nearest(api.MaxFrequency, r.Place)
		if e != api.OK || r.Time < 0 || r.Time > api.MaxMinute {
			return nil, api.ErrRange
		}
		all = append(all, sighting{name: r.Name, time: r.Time, node: node, index: i})
	}
	return all, api.OK
}

// ascending reports whether the times of sightings are strictly ascending.
func ascending(l []sighting) bool {
	for i := 1; i < len(l); i++ {
		if l[i-1].time >= l[i].time {
			return false
		}
	}
	return true
}

// plausible reports whether a station that was at a can have come to b.
func plausible(a, b sighting, hops int) bool {
	if b.time <= a.time {
		return false
	}
	way, _ := grid.Hops(api.MaxFrequency, a.node, b.node)
	return day*way <= hops*(b.time-a.time)+day
}

// chain returns the indices of the reports in the least one of the longest chains of sightings.
func chain(l []sighting, hops int) []int {
	var best []int
	from := make([][]int, len(l))
	for i, s := range slices.Backward(l) {
		from[i] = []int{s.index}
		// The longest chains come first, so that hops, which take long to count, are counted for few of them.
	search:
		for length := len(best); length > 0; length-- {
			for j := i + 1; j < len(l); j++ {
				if len(from[j]) == length && plausible(s, l[j], hops) {
					from[i] = append(from[i], from[j]...)
					break search
				}
			}
		}
		if len(from[i]) >= len(best) {
			best = from[i]
		}
	}
	return best
}
