package binary

import (
	"synoptic/api"
	"synoptic/bulletin"
	"synoptic/group"
	"synoptic/table"
)

// check returns the entries by which the reports of a message are written, or the first error of Encode that applies. No message can have more than MaxMessage bytes: as no two entries have the same element, a block has at most 44.
func check(m api.Message, tables []api.Table) ([]api.Entry, api.Errno) {
	if e := checkHeading(m); e != api.OK {
		return nil, e
	}
	if len(m.Codes) > api.MaxCodes || len(m.Reports) > api.MaxReports {
		return nil, api.ErrLimit
	}
	entries, e := expand(m, tables)
	if e != api.OK {
		return nil, e
	}
	own := byElement(entries)
	for _, r := range m.Reports {
		if e := checkReport(r, m.Time, own); e != api.OK {
			return nil, e
		}
	}
	return entries, api.OK
}

// checkHeading returns ErrSyntax (of the centre) or ErrRange (of the time or the correction), the first of these that applies: the error of a bulletin with the same heading.
func checkHeading(m api.Message) api.Errno {
	return bulletin.Validate(api.Bulletin{Centre: m.Centre, Time: m.Time, Correction: m.Correction})
}

// expand returns the entries for which the codes of a message stand in its table; the error of table.Choose or table.Expand, or ErrDuplicate if two of the entries have the same element.
func expand(m api.Message, tables []api.Table) ([]api.Entry, api.Errno) {
	own, e := table.Choose(tables, m.Table)
	if e != api.OK {
		return nil, e
	}
	entries, e := table.Expand(own, m.Codes)
	if e != api.OK {
		return nil, e
	}
	if len(byElement(entries)) < len(entries) {
		return nil, api.ErrDuplicate
	}
	return entries, api.OK
}

// byElement returns entries by their elements.
func byElement(l []api.Entry) map[int]api.Entry {
	m := map[int]api.Entry{}
	for _, e := range l {
		m[e.Element] = e
	}
	return m
}

// checkReport returns OK if a report can be written in a message of a time by these entries; the error of group.Validate, ErrRange (it is too far from the time), ErrMissing (a reading has no entry) or the error of table.Encode, the first of these that applies.
func checkReport(r api.Report, time int, own map[int]api.Entry) api.Errno {
	if e := group.Validate(r); e != api.OK {
		return e
	}
	if r.Time < time-timeShift || r.Time >= time+timeShift {
		return api.ErrRange
	}
	for _, reading := range r.Readings {
		if _, found := own[reading.Element]; !found {
			return api.ErrMissing
		}
	}
	for _, reading := range r.Readings {
		if _, e := table.Encode(own[reading.Element], reading.Value); e != api.OK {
			return e
		}
	}
	return api.OK
}
