package registry

import (
	"cmp"
	"slices"

	"synoptic/api"
	"synoptic/element"
	"synoptic/group"
	"synoptic/place"
)

// mostBias is the greatest absolute value of a bias.
const mostBias = 1000

// Validate returns OK if a registry is valid, and otherwise ErrLimit (of the numbers of stations and periods), ErrKind, ErrSyntax (of a name), ErrRange (of a period) or ErrOrder (of the stations, or the periods of one), the first of these that applies to the whole registry.
func Validate(r api.Registry) api.Errno {
	some := func(wrong func(s api.Station) bool) bool { return slices.ContainsFunc(r.Stations, wrong) }
	switch {
	case !withinLimits(r):
		return api.ErrLimit
	case some(func(s api.Station) bool { return !isKind(s.Kind) }):
		return api.ErrKind
	case some(func(s api.Station) bool { return !isName(s.Name) }):
		return api.ErrSyntax
	case some(hasWrongPeriod):
		return api.ErrRange
	case !ascending(r.Stations, nameOf) || some(func(s api.Station) bool { return !ascending(s.Periods, fromOf) }):
		return api.ErrOrder
	}
	return api.OK
}

// withinLimits reports whether a registry may have so many stations, and each of them so many periods.
func withinLimits(r api.Registry) bool {
	return len(r.Stations) <= api.MaxStations && !slices.ContainsFunc(r.Stations, func(s api.Station) bool {
		return len(s.Periods) == 0 || len(s.Periods) > api.MaxPeriods
	})
}

// isKind reports whether there is such a kind of stations.
func isKind(kind int) bool {
	return kind >= api.Land && kind <= api.Buoy
}

// isName reports whether a report can have this name.
func isName(name string) bool {
	return group.Validate(api.Report{Kind: api.Land, Name: name}) == api.OK
}

// hasWrongPeriod reports whether a period of a station is not valid for its kind.
func hasWrongPeriod(s api.Station) bool {
	return slices.ContainsFunc(s.Periods, func(p api.Period) bool { return !validPeriod(s.Kind, p) })
}

// validPeriod reports whether a period is valid for a kind.
func validPeriod(kind int, p api.Period) bool {
	switch {
	case p.From < 0 || p.From > api.MaxMinute:
		return false
	case p.Closed:
		return p.Place == api.Place{} && len(p.Bias) == 0
	case kind == api.Land:
		return isNormal(p.Place) && validBias(p.Bias)
	}
	return p.Place == api.Place{} && validBias(p.Bias)
}

// isNormal reports whether a place is valid and normal.
func isNormal(p api.Place) bool {
	normal, e := place.Normal(p)
	return e == api.OK && normal == p
}

// validBias reports whether a list is the bias of a period.
func validBias(l []api.Reading) bool {
	wrong := func(b api.Reading) bool {
		_, e := element.Describe(b.Element)
		return e != api.OK || b.Value < -mostBias || b.Value > mostBias
	}
	return !slices.ContainsFunc(l, wrong) && ascending(l, elementOf)
}

// ascending reports whether a list is strictly ascending by its keys.
func ascending[T any, K cmp.Ordered](l []T, keyOf func(T) K) bool {
	for i := 1; i < len(l); i++ {
		if keyOf(l[i-1]) >= keyOf(l[i]) {
			return false
		}
	}
	return true
}

// nameOf returns the key of a station.
func nameOf(s api.Station) string { return s.Name }

// fromOf returns the key of a period.
func fromOf(p api.Period) int { return p.From }

// elementOf returns the key of a reading.
func elementOf(r api.Reading) int { return r.Element }
