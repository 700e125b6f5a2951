package inbox

import (
	"maps"
	"slices"

	"synoptic/api"
)

// placeCode stands for the place among the contradicted elements.
const placeCode = 0

// Merge returns, for each report with a time in the window, what its versions that count up to the cut-off are merged to, ascending by Kind, Name and Time; the error of Validate, or ErrRange (the window ends before it begins).
func Merge(l []api.Item, w api.Window) ([]api.Merged, api.Errno) {
	if e := Validate(l); e != api.OK {
		return nil, e
	}
	if w.From > w.To {
		return nil, api.ErrRange
	}
	var all []api.Merged
	for _, versions := range counting(l, w) {
		all = append(all, merge(versions))
	}
	return all, api.OK
}

// counting returns the reports of the versions that count, those of one another in one list each.
func counting(l []api.Item, w api.Window) [][]api.Report {
	var all [][]api.Report
	var last api.Item
	for _, x := range l {
		if x.Report.Time < w.From || x.Report.Time > w.To || x.Arrival > w.Cutoff {
			continue
		}
		// In an inbox, versions are next to each other, with those of the greatest correction at the end.
		switch {
		case len(all) == 0 || !areVersions(last.Report, x.Report):
			all = append(all, []api.Report{x.Report})
		case last.Correction < x.Correction:
			all[len(all)-1] = []api.Report{x.Report}
		default:
			all[len(all)-1] = append(all[len(all)-1], x.Report)
		}
		last = x
	}
	return all
}

// areVersions reports whether two reports are versions of one another.
func areVersions(a, b api.Report) bool {
	return a.Kind == b.Kind && a.Name == b.Name && a.Time == b.Time
}

// merge returns what versions, of which there is at least one, are merged to if all of them count.
func merge(versions []api.Report) api.Merged {
	first := versions[0]
	m := api.Merged{
		Report:   api.Report{Kind: first.Kind, Name: first.Name, Time: first.Time, Place: first.Place},
		Versions: len(versions),
	}
	if slices.ContainsFunc(versions, func(r api.Report) bool { return r.Place != first.Place }) {
		m.Report.Place = api.Place{}
		m.Contradicted = append(m.Contradicted, placeCode)
	}
	values := valuesOf(versions)
	for _, code := range slices.Sorted(maps.Keys(values)) {
		if slices.Min(values[code]) != slices.Max(values[code]) {
			m.Contradicted = append(m.Contradicted, code)
			continue
		}
		m.Report.Readings = append(m.Report.Readings, api.Reading{Element: code, Value: values[code][0]})
	}
	return m
}

// valuesOf returns, by element, the values that reports have of it.
func valuesOf(reports []api.Report) map[int][]int {
	values := map[int][]int{}
	for _, r := range reports {
		for _, reading := range r.Readings {
			values[reading.Element] = append(values[reading.Element], reading.Value)
		}
	}
	return values
}
