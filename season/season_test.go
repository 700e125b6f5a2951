package season

import (
	"slices"
	"testing"
	"time"

	"synoptic/api"
	"synoptic/climate"
	"synoptic/group"
)

const (
	least = -1 << 63
	most  = 1<<63 - 1
)

// ranges holds the least and the greatest value of the elements, by code.
var ranges = [12][2]int{
	1: {8000, 11000}, 2: {1800, 3300}, 3: {1800, 3300}, 4: {-1000, 1000}, 5: {-1000, 1000}, 6: {900, 1700},
	7: {2000, 3200}, 8: {2400, 3400}, 9: {2000, 3000}, 10: {4400, 6200}, 11: {2000, 2900},
}

// noElements holds codes that do not exist. Those above 32 bits end like codes that exist.
var noElements = []int{0, -1, 12, 13, 100, 1<<32 + 1, least, most}

// climateOf returns a climate whose normals are given as Element, Face, Month, Mean and Spread in turn.
func climateOf(numbers ...int) api.Climate {
	var c api.Climate
	for n := range slices.Chunk(numbers, 5) {
		c.Normals = append(c.Normals, api.Normal{Element: n[0], Face: n[1], Month: n[2], Mean: n[3], Spread: n[4]})
	}
	return c
}

// list returns the readings whose elements and values are given in turn.
func list(numbers ...int) []api.Reading {
	var l []api.Reading
	for x := range slices.Chunk(numbers, 2) {
		l = append(l, api.Reading{Element: x[0], Value: x[1]})
	}
	return l
}

// inside returns a place within a face.
func inside(face int) api.Place {
	return api.Place{Face: face, A: 1, B: 2, C: 837}
}

// minuteOf returns the minute of a date, by the calendar of Go's library.
func minuteOf(year, month, day, hour, minute int) int {
	return int(time.Date(year, time.Month(month), day, hour, minute, 0, 0, time.UTC).Sub(time.Date(2000, 1, 1, 0, 0, 0, 0, time.UTC)) / time.Minute)
}

// report returns a report of a ship whose readings are given as elements and values in turn.
func report(minute int, at api.Place, numbers ...int) api.Report {
	return api.Report{Kind: api.Ship, Name: "DELTA", Time: minute, Place: at, Readings: list(numbers...)}
}

// january returns a report of January within the face 0.
func january(numbers ...int) api.Report {
	return report(0, inside(0), numbers...)
}

// farOf returns what Far returns for all elements that exist and some that do not, by code, where it returns true.
func farOf(t *testing.T, c api.Climate, r api.Report) map[int]int {
	t.Helper()
	all := map[int]int{}
	codes := slices.Clone(noElements)
	for code := 1; code <= api.MaxElements; code++ {
		codes = append(codes, code)
	}
	for _, code := range codes {
		n, ok := Far(c, r, code)
		if ok {
			all[code] = n
		} else if n != 0 {
			t.Fatalf("Far of %d is %d, false, of %v with %v", code, n, r, c)
		}
	}
	return all
}

// checkReport compares what Check and Far return with what is expected: the rejected elements, and of all readings that have a normal the codes and how far they are, in turn.
func checkReport(t *testing.T, c api.Climate, r api.Report, rejected []int, far ...int) {
	t.Helper()
	climateBefore, reportBefore := api.Climate{Normals: slices.Clone(c.Normals)}, r
	reportBefore.Readings = slices.Clone(r.Readings)
	got, e := Check(c, r)
	if e != api.OK || !slices.Equal(got, rejected) {
		t.Fatalf("Check = %v, %d, not %v, of %v with %v", got, e, rejected, r, c)
	}
	all := farOf(t, c, r)
	for _, x := range list(far...) {
		if n, found := all[x.Element]; !found || n != x.Value {
			t.Fatalf("Far of %d is %d, %t, not %d, of %v with %v", x.Element, n, found, x.Value, r, c)
		}
	}
	if len(all) != len(far)/2 {
		t.Fatalf("Far is true for %v, not for %v, of %v with %v", all, list(far...), r, c)
	}
	if !climate.Same(c, climateBefore) || !group.Same(r, reportBefore) {
		t.Fatalf("%v with %v changed to %v with %v", reportBefore, climateBefore, r, c)
	}
}

// checkError checks that Check has an error and no elements, and that Far is false.
func checkError(t *testing.T, c api.Climate, r api.Report, want api.Errno) {
	t.Helper()
	if got, e := Check(c, r); e != want || len(got) != 0 {
		t.Fatalf("Check = %v, %d, not the error %d, of %v with %v", got, e, want, r, c)
	}
	if all := farOf(t, c, r); len(all) != 0 {
		t.Fatalf("Far is true for %v, of %v with %v", all, r, c)
	}
}

// P15.1, P15.2: the example of the chapter.
func TestExample(t *testing.T) {
	c := climateOf(1, 0, 1, 10135, 6)
	checkReport(t, c, january(1, 10141), nil, 1, 6)
	checkReport(t, c, january(1, 10142), []int{1}, 1, 7)
	checkReport(t, c, january(1, 10129), nil, 1, -6)
	checkReport(t, c, january(1, 10128), []int{1}, 1, -7)
	checkReport(t, c, january(1, 10135), nil, 1, 0)
}

// P15.1, P15.2: each element by itself, on both sides of both limits.
func TestLimits(t *testing.T) {
	for code := 1; code <= api.MaxElements; code++ {
		mean := (ranges[code][0] + ranges[code][1]) / 2
		for _, spread := range []int{0, 1, 2, 100, 380} {
			c := climateOf(code, 0, 1, mean, spread)
			for _, n := range []int{0, 1, 2, 3, 99, 100, 101, 379, 380, 381} {
				var want []int
				if n > spread {
					want = []int{code}
				}
				checkReport(t, c, january(code, mean+n), want, code, n)
				checkReport(t, c, january(code, mean-n), want, code, -n)
			}
		}
	}
}

// P15.1, P15.2: normals whose Mean is far from the range of the element, or whose Spread is greater than it.
func TestExtremeNormals(t *testing.T) {
	for code := 1; code <= api.MaxElements; code++ {
		for _, value := range ranges[code] {
			checkReport(t, climateOf(code, 0, 1, -10000, 20000), january(code, value), rejectedIf(value > 10000, code), code, value+10000)
			checkReport(t, climateOf(code, 0, 1, 20000, 20000), january(code, value), rejectedIf(value < 0, code), code, value-20000)
			checkReport(t, climateOf(code, 0, 1, -10000, 0), january(code, value), []int{code}, code, value+10000)
			checkReport(t, climateOf(code, 0, 1, 20000, 0), january(code, value), []int{code}, code, value-20000)
			checkReport(t, climateOf(code, 0, 1, value, 0), january(code, value), nil, code, 0)
			checkReport(t, climateOf(code, 0, 1, 0, 0), january(code, value), rejectedIf(value != 0, code), code, value)
		}
	}
	checkReport(t, climateOf(1, 0, 1, -10000, 20000), january(1, 10000), nil, 1, 20000)
	checkReport(t, climateOf(1, 0, 1, -10000, 20000), january(1, 10001), []int{1}, 1, 20001)
	checkReport(t, climateOf(4, 0, 1, 20000, 20000), january(4, 0), nil, 4, -20000)
	checkReport(t, climateOf(4, 0, 1, 20000, 20000), january(4, -1), []int{4}, 4, -20001)
	checkReport(t, climateOf(5, 0, 1, -30, 20), january(5, -51), []int{5}, 5, -21)
	checkReport(t, climateOf(5, 0, 1, -30, 20), january(5, -50), nil, 5, -20)
	checkReport(t, climateOf(5, 0, 1, -30, 20), january(5, -10), nil, 5, 20)
	checkReport(t, climateOf(5, 0, 1, -30, 20), january(5, -9), []int{5}, 5, 21)
}

// rejectedIf returns a list of a code, or an empty one.
func rejectedIf(yes bool, code int) []int {
	if yes {
		return []int{code}
	}
	return nil
}

// P15.1, P15.2: several readings, with and without normals.
func TestSeveralReadings(t *testing.T) {
	c := climateOf(
		1, 0, 1, 10135, 6,
		2, 0, 1, 2800, 10,
		4, 0, 1, -15, 100,
		5, 0, 1, 0, 0,
		11, 0, 1, 2500, 30,
	)
	all := []int{1, 10130, 2, 2811, 3, 3300, 4, -116, 5, 0, 6, 900, 7, 2000, 8, 2400, 9, 3000, 10, 6200, 11, 2469}
	checkReport(t, c, january(all...), []int{2, 4, 11}, 1, -5, 2, 11, 4, -101, 5, 0, 11, -31)
	checkReport(t, c, january(1, 8000, 2, 1800, 4, 1000, 5, 1, 11, 2900), []int{1, 2, 4, 5, 11}, 1, -2135, 2, -1000, 4, 1015, 5, 1, 11, 400)
	checkReport(t, c, january(3, 1800, 6, 1700, 10, 4400), nil)
	checkReport(t, c, january(2, 2790, 11, 2531), []int{11}, 2, -10, 11, 31)
	checkReport(t, c, january(1, 10142, 5, 0), []int{1}, 1, 7, 5, 0)
	checkReport(t, c, january(), nil)
	checkReport(t, c, api.Report{Place: inside(0), Readings: []api.Reading{}}, nil)
	checkReport(t, api.Climate{}, january(all...), nil)
	checkReport(t, api.Climate{Normals: []api.Normal{}}, january(all...), nil)
	checkReport(t, api.Climate{}, january(), nil)
}

// P15.1, P15.2: normals of other elements, faces and months do not count.
func TestOtherNormals(t *testing.T) {
	c := climateOf(
		1, 0, 1, 10000, 0,
		1, 0, 2, 10010, 1,
		1, 1, 1, 10020, 2,
		1, 19, 12, 10030, 3,
		3, 0, 1, 2700, 4,
		3, 5, 7, 2710, 5,
	)
	for face := range api.Faces {
		for month := 1; month <= 12; month++ {
			var rejected, far []int
			r := report(minuteOf(2026, month, 20, 16, 0), inside(face), 1, 10100, 2, 2000, 3, 2800, 4, 1000)
			for _, n := range c.Normals {
				if n.Face == face && n.Month == month {
					rejected = append(rejected, n.Element)
					far = append(far, n.Element, map[int]int{1: 10100, 3: 2800}[n.Element]-n.Mean)
				}
			}
			checkReport(t, c, r, rejected, far...)
		}
	}
}

// addresses holds places that are the same in each row, the normal one first, by hand.
func addresses() [][]api.Place {
	return [][]api.Place{
		{{Face: 0, A: 840}, {Face: 1, A: 840}, {Face: 2, A: 840}, {Face: 3, A: 840}, {Face: 4, A: 840}},
		{{Face: 0, C: 840}, {Face: 1, B: 840}, {Face: 5, C: 840}, {Face: 6, A: 840}, {Face: 10, C: 840}},
		{{Face: 15, A: 840}, {Face: 16, A: 840}, {Face: 17, A: 840}, {Face: 18, A: 840}, {Face: 19, A: 840}},
		{{Face: 5, A: 420, B: 420}, {Face: 14, B: 420, C: 420}},
		{{Face: 0, B: 300, C: 540}, {Face: 5, A: 300, C: 540}},
		{{Face: 0, A: 839, B: 1}, {Face: 4, A: 839, C: 1}},
		{{Face: 5, A: 1, B: 1, C: 838}},
		{{Face: 14, A: 1, B: 419, C: 420}},
		{{Face: 19, A: 838, B: 1, C: 1}},
	}
}

// P15.1, P15.2: the normal is that of the normal place, whichever address the report has.
func TestNormalPlace(t *testing.T) {
	var c api.Climate
	for face := range api.Faces {
		c.Normals = append(c.Normals, api.Normal{Element: 2, Face: face, Month: 7, Mean: 2800 + 10*face, Spread: 4})
	}
	for _, same := range addresses() {
		face := same[0].Face
		mean := 2800 + 10*face
		without := api.Climate{Normals: slices.Delete(slices.Clone(c.Normals), face, face+1)}
		for _, p := range same {
			july := func(value int) api.Report { return report(minuteOf(2026, 7, 4, 12, 0), p, 2, value) }
			checkReport(t, c, july(mean+4), nil, 2, 4)
			checkReport(t, c, july(mean+5), []int{2}, 2, 5)
			checkReport(t, c, july(mean-5), []int{2}, 2, -5)
			checkReport(t, without, july(mean+5), nil)
		}
	}
}

// P15.1, P15.2: the month is that of the date, from the first minute of a month to its last one.
func TestMonth(t *testing.T) {
	var c api.Climate
	for month := 1; month <= 12; month++ {
		c.Normals = append(c.Normals, api.Normal{Element: 5, Face: 13, Month: month, Mean: 50 * month, Spread: 9})
	}
	for year := 2000; year <= 2099; year++ {
		for month := 1; month <= 12; month++ {
			from, to := minuteOf(year, month, 1, 0, 0), minuteOf(year, month+1, 1, 0, 0)-1
			for _, minute := range []int{from, from + 1, (from + to) / 2, to - 1, to} {
				checkReport(t, c, report(minute, inside(13), 5, 50*month-9), nil, 5, -9)
				checkReport(t, c, report(minute, inside(13), 5, 50*month-10), []int{5}, 5, -10)
			}
		}
	}
	checkReport(t, c, report(0, inside(13), 5, 60), []int{5}, 5, 10)
	checkReport(t, c, report(api.MaxMinute, inside(13), 5, 1000), []int{5}, 5, 400)
}

// P15.1, P15.2: kinds and names do not matter.
func TestAnyStations(t *testing.T) {
	c := climateOf(1, 0, 1, 10135, 6)
	for _, kind := range []int{api.Land, api.Ship, api.Buoy, 0, 4, least, most} {
		for _, name := range []string{"01234", "DELTA", "", "no name", "\xff"} {
			r := january(1, 10142)
			r.Kind, r.Name = kind, name
			checkReport(t, c, r, []int{1}, 1, 7)
			r.Place = api.Place{}
			checkError(t, c, r, api.ErrRange)
		}
	}
}

// P15.1: a result is new memory, so that changing it does not change another one.
func TestNewMemory(t *testing.T) {
	c := climateOf(1, 0, 1, 10135, 6, 2, 0, 1, 2800, 10)
	r := january(1, 8000, 2, 1800)
	got, _ := Check(c, r)
	for i := range got {
		got[i] = 77
	}
	checkReport(t, c, r, []int{1, 2}, 1, -2135, 2, -1000)
}
