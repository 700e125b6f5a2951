package registry

import (
	"synoptic/api"
	"synoptic/element"
)

// Apply returns a report with the Place where it was made, and with readings without the bias of the period at its Time. It returns the error of Validate, ErrKind, that of element.Validate, ErrMissing (for Land: no station, or no period), ErrState (the station has another Kind, or is closed) or ErrNone (for the others: the Place is not valid and normal), the first of these that applies.
func Apply(r api.Registry, x api.Report) (api.Report, api.Errno) {
	if e := Validate(r); e != api.OK {
		return api.Report{}, e
	}
	if !isKind(x.Kind) {
		return api.Report{}, api.ErrKind
	}
	if e := element.Validate(x.Readings); e != api.OK {
		return api.Report{}, e
	}
	own, known := station(r, x.Name)
	p, found := periodAt(own, x.Time)
	switch {
	case x.Kind == api.Land && !found:
		return api.Report{}, api.ErrMissing
	case known && own.Kind != x.Kind || p.Closed:
		return api.Report{}, api.ErrState
	case x.Kind != api.Land && !isNormal(x.Place):
		return api.Report{}, api.ErrNone
	}
	if x.Kind == api.Land {
		x.Place = p.Place
	}
	x.Readings = without(x.Readings, p.Bias)
	return x, api.OK
}

// without returns readings from whose values those of a bias are subtracted, but for those that leave the range of their element.
func without(l, bias []api.Reading) []api.Reading {
	var rest []api.Reading
	for _, reading := range l {
		n, _ := element.Find(bias, reading.Element)
		reading.Value -= n
		if element.Validate([]api.Reading{reading}) == api.OK {
			rest = append(rest, reading)
		}
	}
	return rest
}
