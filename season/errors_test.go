package season

import (
	"slices"
	"testing"

	"synoptic/api"
)

// wrongClimates returns climates that are not valid, by their errors.
func wrongClimates() map[api.Errno][]api.Climate {
	var full api.Climate
	for i := range api.MaxNormals + 1 {
		full.Normals = append(full.Normals, api.Normal{Element: i/240 + 1, Face: i / 12 % 20, Month: i%12 + 1, Mean: 10000, Spread: 50})
	}
	good := []int{1, 0, 1, 10135, 6, 2, 0, 1, 2800, 10}
	behind := func(numbers ...int) api.Climate { return climateOf(append(slices.Clone(good), numbers...)...) }
	l := map[api.Errno][]api.Climate{
		api.ErrLimit: {full, {Normals: make([]api.Normal, api.MaxNormals+1)}},
		api.ErrKind:  {climateOf(12, 20, 1, 0, 0, 1, 0, 1, 10135, 6), {Normals: make([]api.Normal, api.MaxNormals)}},
		api.ErrOrder: {behind(2, 0, 1, 2800, 10), behind(1, 0, 2, 10135, 6), climateOf(1, 1, 1, 10135, 6, 1, 0, 1, 10135, 6), climateOf(1, 0, 2, 10135, 6, 1, 0, 1, 10135, 6)},
	}
	for _, code := range noElements {
		l[api.ErrKind] = append(l[api.ErrKind], behind(code, 0, 1, 0, 0))
	}
	for _, n := range []int{-1, 20, 1 << 32, least, most} {
		l[api.ErrRange] = append(l[api.ErrRange], behind(4, n, 1, 0, 0))
	}
	for _, n := range []int{0, 13, 1<<32 + 1, least, most} {
		l[api.ErrRange] = append(l[api.ErrRange], behind(4, 0, n, 0, 0))
	}
	for _, n := range []int{-10001, 20001, least, most} {
		l[api.ErrRange] = append(l[api.ErrRange], behind(4, 0, 1, n, 0))
	}
	for _, n := range []int{-1, 20001, least, most} {
		l[api.ErrRange] = append(l[api.ErrRange], behind(4, 0, 1, 0, n), climateOf(1, 0, 1, 10135, n))
	}
	return l
}

// wrongReadings returns readings that are not valid, by their errors.
func wrongReadings() map[api.Errno][][]api.Reading {
	l := map[api.Errno][][]api.Reading{
		api.ErrOrder: {list(2, 2800, 1, 10130), list(1, 10130, 1, 10130), list(1, 10130, 11, 2500, 10, 5000)},
	}
	for _, code := range noElements {
		l[api.ErrKind] = append(l[api.ErrKind], list(code, 0), list(1, 10130, code, 10130), list(code, 0, 1, 0, 1, 0))
	}
	for code := 1; code <= api.MaxElements; code++ {
		for _, value := range []int{ranges[code][0] - 1, ranges[code][1] + 1, least, most} {
			l[api.ErrRange] = append(l[api.ErrRange], list(code, value), list(code, value, 1, 10130))
		}
	}
	return l
}

// wrongPlaces returns places that are not valid.
func wrongPlaces() []api.Place {
	return []api.Place{
		{}, {Face: 1}, {A: 839}, {A: 841}, {A: 841, B: -1}, {B: 841, C: -1}, {A: -1, B: 421, C: 420}, {A: 280, B: 280, C: 281},
		{Face: 20, A: 280, B: 280, C: 280}, {Face: -1, A: 280, B: 280, C: 280}, {Face: 1 << 32, A: 840}, {Face: most, A: 840}, {Face: least, A: 840},
		{Face: 3, A: least, B: most, C: 841}, {A: most, B: most, C: 842},
	}
}

// wrongMinutes returns numbers that are no minutes.
func wrongMinutes() []int {
	return []int{-1, api.MaxMinute + 1, -44640, 1 << 32, -1 << 32, least, most}
}

// wrongWhere returns reports whose Place or Time is not valid, with other readings.
func wrongWhere(readings []api.Reading) []api.Report {
	var l []api.Report
	for _, p := range wrongPlaces() {
		l = append(l, api.Report{Place: p, Readings: readings}, api.Report{Place: p, Time: -1, Readings: readings})
	}
	for _, minute := range wrongMinutes() {
		l = append(l, api.Report{Place: inside(0), Time: minute, Readings: readings})
	}
	return l
}

// goodClimates returns climates that are valid: empty ones, and with and without a normal of the pressure in January on the face 0.
func goodClimates() []api.Climate {
	return []api.Climate{{}, {Normals: []api.Normal{}}, climateOf(1, 0, 1, 10135, 6), climateOf(2, 0, 1, 2800, 6), climateOf(1, 1, 1, 10135, 6, 11, 19, 12, 2500, 0)}
}

// P15.1, P15.2: climates that are not valid, whatever the report is.
func TestWrongClimates(t *testing.T) {
	for want, l := range wrongClimates() {
		for _, c := range l {
			checkError(t, c, january(1, 10130, 2, 2800), want)
			checkError(t, c, january(), want)
			checkError(t, c, api.Report{}, want)
			checkError(t, c, report(-1, inside(20), 1, 10130), want)
			for _, bad := range wrongReadings() {
				checkError(t, c, api.Report{Readings: bad[0]}, want)
				checkError(t, c, api.Report{Place: inside(0), Readings: bad[0]}, want)
			}
		}
	}
}

// P15.1, P15.2: readings that are not valid, with a valid climate, wherever the report is.
func TestWrongReadings(t *testing.T) {
	for want, l := range wrongReadings() {
		for _, bad := range l {
			for _, c := range goodClimates() {
				checkError(t, c, api.Report{Place: inside(0), Readings: bad}, want)
			}
			for _, r := range wrongWhere(bad) {
				checkError(t, climateOf(1, 0, 1, 10135, 6), r, want)
			}
		}
	}
}

// P15.1, P15.2: a place or a time that is not valid, also of a report without readings or without normals.
func TestWrongPlacesAndTimes(t *testing.T) {
	for _, c := range goodClimates() {
		for _, readings := range [][]api.Reading{nil, {}, list(1, 10130), list(3, 2800), list(1, 10130, 2, 2800, 11, 2500)} {
			for _, r := range wrongWhere(readings) {
				checkError(t, c, r, api.ErrRange)
			}
			for _, minute := range []int{0, api.MaxMinute} {
				if _, e := Check(c, api.Report{Place: inside(19), Time: minute, Readings: readings}); e != api.OK {
					t.Errorf("Check = %d of the minute %d", e, minute)
				}
			}
		}
	}
}

// P15.1, P15.2: too many readings are never in order.
func TestManyReadings(t *testing.T) {
	r := january()
	for i := range 100000 {
		r.Readings = append(r.Readings, list(1+i%2, 2000+8000*(1-i%2))...)
	}
	checkError(t, climateOf(1, 0, 1, 10135, 6), r, api.ErrOrder)
	checkError(t, api.Climate{Normals: make([]api.Normal, 100000)}, r, api.ErrLimit)
}
