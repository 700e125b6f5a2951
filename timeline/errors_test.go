package timeline

import (
	"slices"
	"testing"

	"synoptic/api"
)

// noLimits holds numbers that are no limits for steps or spikes.
var noLimits = []int{-1, 10001, 1 << 32, -1 << 32, least, most}

// noMinutes holds numbers that are no minutes.
var noMinutes = []int{-1, api.MaxMinute + 1, 1 << 32, -1 << 32, least, most}

// checkError checks that Check has an error and no flags.
func checkError(t *testing.T, l []api.Report, k api.Control, want api.Errno) {
	t.Helper()
	if got, e := Check(l, k); e != want || len(got) != 0 {
		t.Fatalf("Check = %v, %d, not the error %d, of %v with the steps %v and the spikes %v", got, e, want, l, k.Steps, k.Spikes)
	}
}

// wrongReadings returns readings that are not valid, by their errors.
func wrongReadings() map[api.Errno][][]api.Reading {
	l := map[api.Errno][][]api.Reading{
		api.ErrOrder: {list(2, 2800, 1, 10130), list(1, 10130, 1, 10130), list(1, 10130, 11, 2500, 10, 5000)},
	}
	for _, code := range []int{0, -1, 12, 13, 100, 1<<32 + 1, least, most} {
		l[api.ErrKind] = append(l[api.ErrKind], list(code, 0), list(1, 10130, code, 10130), list(code, 0, 1, 0, 1, 0))
	}
	for code := 1; code <= api.MaxElements; code++ {
		for _, value := range []int{ranges[code][0] - 1, ranges[code][1] + 1, least, most} {
			l[api.ErrRange] = append(l[api.ErrRange], list(code, value), list(code, value, 1, 10130))
		}
	}
	return l
}

// wrongLists returns lists that are not valid, with readings of an error that is not ErrRange in the last two.
func wrongLists() [][]api.Report {
	good := at(0, 1, 10000)
	return [][]api.Report{
		{at(-1, 1, 10000)},
		{good, good},
		{at(0, 1, 10000, 1, 10000)},
		{good, good, at(-1, 12, 0)},
	}
}

// P16.1: limits that are out of range, whatever the reports are.
func TestWrongLimits(t *testing.T) {
	for code := range 12 {
		for _, n := range noLimits {
			for _, k := range []api.Control{limit(code, n, 0), limit(code, 0, n), limit(code, n, 10), limit(code, 10, n), limit(code, n, n)} {
				checkError(t, nil, k, api.ErrRange)
				checkError(t, hourly(1, 10000, 10100, 10001), k, api.ErrRange)
				for _, l := range wrongLists() {
					checkError(t, l, k, api.ErrRange)
				}
			}
		}
		for _, k := range []api.Control{limit(code, 0, 10000), limit(code, 10000, 0), limit(code, 10000, 10000)} {
			checkFlags(t, hourly(1, 8000, 11000, 8000), k, nil)
		}
	}
}

// P16.1: readings that are not valid, in any report, whatever the Times are and whether there are limits for them or not.
func TestWrongReadings(t *testing.T) {
	good, same, early := at(60, 1, 10000), at(60, 2, 2800), at(-1)
	for want, all := range wrongReadings() {
		for _, readings := range all {
			bad := api.Report{Name: "01234", Time: 120, Readings: readings}
			for _, k := range []api.Control{{}, limit(1, 10, 10)} {
				for _, l := range [][]api.Report{{bad}, {bad, good}, {good, bad}, {bad, bad}, {good, same, bad}, {bad, good, same}, {early, bad}, {bad, early}} {
					checkError(t, l, k, want)
				}
				for _, minute := range noMinutes {
					late := bad
					late.Time = minute
					checkError(t, []api.Report{late}, k, want)
				}
			}
		}
	}
}

// P16.1: the error is that of the first report that has one in its readings, not the least one.
func TestFirstWrongReadings(t *testing.T) {
	all := wrongReadings()
	for first, l := range all {
		for second, others := range all {
			for i, readings := range l {
				one, other := api.Report{Name: "A", Time: 5, Readings: readings}, api.Report{Name: "B", Time: 4, Readings: others[i%len(others)]}
				checkError(t, []api.Report{one, other}, api.Control{}, first)
				checkError(t, []api.Report{at(0), one, at(1), other}, api.Control{}, first)
				checkError(t, []api.Report{other, one}, api.Control{}, second)
			}
		}
	}
}

// P16.1: Times that are out of range, also of reports without readings, and beside equal Names and Times.
func TestWrongTimes(t *testing.T) {
	for _, k := range []api.Control{{}, limit(1, 10, 10)} {
		for _, minute := range noMinutes {
			for _, bad := range []api.Report{at(minute), at(minute, 1, 10000)} {
				good := at(0, 1, 10000)
				for _, l := range [][]api.Report{{bad}, {bad, good}, {good, bad}, {bad, bad}, {good, good, bad}, {bad, good, good}} {
					checkError(t, l, k, api.ErrRange)
				}
			}
		}
		checkFlags(t, line(1, 0, 10000, api.MaxMinute, 10000), k, nil)
	}
}

// P16.1: two reports with the same Name and Time, also if they have no element in common.
func TestDuplicates(t *testing.T) {
	for _, k := range []api.Control{{}, limit(1, 10, 10)} {
		one, far := at(60, 1, 10000), at(7, 1, 10000)
		for _, other := range []api.Report{one, at(60), at(60, 2, 2800), at(60, 1, 10500), {Kind: api.Ship, Name: "01234", Time: 60, Place: api.Place{A: 840}}} {
			for _, l := range [][]api.Report{{one, other}, {other, one}, {one, far, other}, {far, other, one}, {other, at(0), far, at(1), one}} {
				checkError(t, l, k, api.ErrDuplicate)
			}
		}
		checkError(t, []api.Report{at(60), at(60)}, k, api.ErrDuplicate)
		checkError(t, []api.Report{{}, {}}, k, api.ErrDuplicate)
		for _, other := range []api.Report{at(59, 1, 10000), at(61, 1, 10000), named("01235", []api.Report{one})[0], named("0123", []api.Report{one})[0], named("", []api.Report{one})[0]} {
			checkFlags(t, []api.Report{one, other}, k, nil)
		}
	}
}

// P16.1: long lists, whose failures are printed without the lists.
func TestManyReports(t *testing.T) {
	var l []api.Report
	var interior []api.Flag
	for i := range 50000 {
		l = append(l, at(i*1000, 1, 10000+i%2*1000))
		if i > 0 {
			interior = append(interior, flags(i, 1)...)
		}
	}
	l = append(l, at(api.MaxMinute, 1, 10000))
	if got, e := Check(l, limit(1, 1000, 0)); e != api.OK || len(got) > 0 {
		t.Errorf("Check = %d flags, %d, not none, with slow changes", len(got), e)
	}
	if got, e := Check(l, limit(1, 0, 999)); e != api.OK || !slices.Equal(got, interior) {
		t.Errorf("Check = %d flags, %d, not those of the spikes between the first report and the last one", len(got), e)
	}
	if got, e := Check(append(l, at(25000, 2, 2800)), limit(1, 1000, 0)); e != api.ErrDuplicate || len(got) > 0 {
		t.Errorf("Check = %d flags, %d, not the error %d", len(got), e, api.ErrDuplicate)
	}
}
