package climate

import (
	"slices"

	"synoptic/api"
	"synoptic/element"
)

// slot is what a normal is learned for.
type slot struct{ element, face, month int }

// tally is what is known of the readings of a slot.
type tally struct{ count, sum, least, most int }

// with returns the tally with another reading.
func (t tally) with(value int) tally {
	if t.count == 0 {
		return tally{count: 1, sum: value, least: value, most: value}
	}
	return tally{count: t.count + 1, sum: t.sum + value, least: min(t.least, value), most: max(t.most, value)}
}

// mean returns the floor mean of the readings.
func (t tally) mean() int {
	// Division rounds towards 0, which is too high for a negative sum that leaves a rest.
	if t.sum%t.count < 0 {
		return t.sum/t.count - 1
	}
	return t.sum / t.count
}

// spread returns the greatest difference of a reading from the mean.
func (t tally) spread() int {
	return max(t.most-t.mean(), t.mean()-t.least)
}

// Learn returns the climate with the floor means of the readings of reports, and with their greatest differences from them. It returns the first error of a report, which is ErrRange (its Place is not valid and normal, or its Time not in the range 0 to MaxMinute) or that of element.Validate, and ErrLimit if no report has an error but there would be more than MaxNormals normals.
func Learn(l []api.Report) (api.Climate, api.Errno) {
	tallies := map[slot]tally{}
	for _, r := range l {
		face, month, e := faceAndMonth(r.Place, r.Time)
		// A place has one address on a face, so that it is normal exactly if it is on the face of the normal one.
		if e != api.OK || face != r.Place.Face {
			return api.Climate{}, api.ErrRange
		}
		if e := element.Validate(r.Readings); e != api.OK {
			return api.Climate{}, e
		}
		for _, x := range r.Readings {
			own := slot{element: x.Element, face: face, month: month}
			tallies[own] = tallies[own].with(x.Value)
		}
	}
	if len(tallies) > api.MaxNormals {
		return api.Climate{}, api.ErrLimit
	}
	return api.Climate{Normals: normals(tallies)}, api.OK
}

// normals returns the normals of tallies, ascending.
func normals(tallies map[slot]tally) []api.Normal {
	var all []api.Normal
	for own, t := range tallies {
		all = append(all, api.Normal{Element: own.element, Face: own.face, Month: own.month, Mean: t.mean(), Spread: t.spread()})
	}
	slices.SortFunc(all, order)
	return all
}
