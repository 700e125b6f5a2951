package climate

import (
	"math/rand"
	"slices"
	"testing"
	"time"

	"synoptic/api"
	"synoptic/group"
)

// ranges holds the least and the greatest value of the elements, by code.
var ranges = [12][2]int{
	1: {8000, 11000}, 2: {1800, 3300}, 3: {1800, 3300}, 4: {-1000, 1000}, 5: {-1000, 1000}, 6: {900, 1700},
	7: {2000, 3200}, 8: {2400, 3400}, 9: {2000, 3000}, 10: {4400, 6200}, 11: {2000, 2900},
}

// inside returns a place within a face.
func inside(face int) api.Place {
	return api.Place{Face: face, A: 1, B: 2, C: 837}
}

// report returns a report of a ship whose readings are given as elements and values in turn.
func report(minute int, at api.Place, numbers ...int) api.Report {
	r := api.Report{Kind: api.Ship, Name: "DELTA", Time: minute, Place: at}
	for x := range slices.Chunk(numbers, 2) {
		r.Readings = append(r.Readings, api.Reading{Element: x[0], Value: x[1]})
	}
	return r
}

// of returns a report with a value of an element for each number, within the face 0 and in January 2000.
func of(code int, values ...int) []api.Report {
	var l []api.Report
	for i, n := range values {
		l = append(l, report(i, inside(0), code, n))
	}
	return l
}

// copiedReports returns reports that share no memory with those of a list.
func copiedReports(l []api.Report) []api.Report {
	var all []api.Report
	for _, r := range l {
		r.Readings = append([]api.Reading(nil), r.Readings...)
		all = append(all, r)
	}
	return all
}

// checkLearn compares what Learn returns with what is expected.
func checkLearn(t *testing.T, l []api.Report, want api.Climate) {
	t.Helper()
	before := copiedReports(l)
	got, e := Learn(l)
	if e != api.OK || text(got) != text(want) {
		t.Fatalf("Learn = %d\n%s, not\n%s, of %v", e, text(got), text(want), l)
	}
	if !slices.EqualFunc(l, before, group.Same) {
		t.Fatalf("Learn changed its argument %v to %v", before, l)
	}
}

// checkLearnError checks that Learn has an error and no climate.
func checkLearnError(t *testing.T, l []api.Report, want api.Errno) {
	t.Helper()
	if got, e := Learn(l); e != want || len(got.Normals) != 0 {
		t.Fatalf("Learn = %d\n%s, not the error %d, of %v", e, text(got), want, l)
	}
}

// P13.3: the example of the chapter.
func TestLearnExample(t *testing.T) {
	for face := range 20 {
		for month := 1; month <= 12; month++ {
			l := []api.Report{report(minuteOf(2000, month, 1, 0, 0), inside(face), 1, 10130), report(minuteOf(2099, month, 28, 23, 59), inside(face), 1, 10141)}
			checkLearn(t, l, climateOf(1, face, month, 10135, 6))
		}
	}
}

// P13.3: means and spreads by hand, also of negative numbers.
func TestLearnMeansAndSpreads(t *testing.T) {
	for _, c := range []struct {
		code         int
		values       []int
		mean, spread int
	}{
		{4, []int{-1}, -1, 0}, {4, []int{0}, 0, 0}, {5, []int{-1000}, -1000, 0}, {5, []int{1000}, 1000, 0}, {1, []int{11000}, 11000, 0},
		{4, []int{-1, 0}, -1, 1}, {4, []int{0, 1}, 0, 1}, {4, []int{-1, 1}, 0, 1}, {4, []int{-2, -1}, -2, 1}, {4, []int{-2, 0}, -1, 1},
		{4, []int{-1, 0, 0}, -1, 1}, {4, []int{0, 1, 1}, 0, 1}, {4, []int{-1, -1, 0}, -1, 1}, {4, []int{-1, -1, -2}, -2, 1}, {4, []int{-1, -1, -1}, -1, 0},
		{5, []int{-5, -6, -6, -8}, -7, 2}, {5, []int{-5, -6, -6, -7}, -6, 1}, {5, []int{5, 6, 6, 8}, 6, 2}, {5, []int{-9, 1, 1, 1}, -2, 7}, {5, []int{9, -1, -1, -1}, 1, 8},
		{4, []int{-1000, 1000}, 0, 1000}, {4, []int{-1000, 999}, -1, 1000}, {4, []int{-999, 1000}, 0, 1000}, {4, []int{1000, 1000, -1000}, 333, 1333}, {4, []int{-1000, -1000, 1000}, -334, 1334},
		{2, []int{2800, 2800, 2800}, 2800, 0}, {3, []int{2800, 2803}, 2801, 2}, {3, []int{2803, 2800}, 2801, 2}, {1, []int{8000, 11000, 11000, 11000}, 10250, 2250}, {1, []int{11000, 8000, 8000, 8000}, 8750, 2250},
		{11, []int{2003, 2000, 2900, 2001}, 2226, 674}, {10, []int{4400, 6200, 6199}, 5599, 1199},
	} {
		for range c.values {
			c.values = append(c.values[1:], c.values[0])
			checkLearn(t, of(c.code, c.values...), climateOf(c.code, 0, 1, c.mean, c.spread))
			checkLearn(t, slices.Concat(of(c.code, c.values...), of(c.code, c.values...)), climateOf(c.code, 0, 1, c.mean, c.spread))
		}
	}
}

// P13.3: each element, face and month by itself, ascending.
func TestLearnByElementFaceAndMonth(t *testing.T) {
	checkLearn(t, nil, api.Climate{})
	checkLearn(t, []api.Report{}, api.Climate{})
	checkLearn(t, []api.Report{report(0, inside(3)), report(api.MaxMinute, inside(4))}, api.Climate{})
	january, february := minuteOf(2010, 1, 31, 23, 59), minuteOf(2010, 2, 1, 0, 0)
	checkLearn(t, []api.Report{
		report(february, inside(7), 1, 10100, 4, -7, 11, 2500),
		report(january, inside(7), 1, 10000, 4, -9),
		report(january, inside(6), 4, 5, 11, 2400),
		report(february, inside(7), 4, -8, 5, 8),
		report(february, inside(8)),
		report(minuteOf(2099, 12, 31, 23, 59), inside(19), 1, 8000, 2, 1800),
		report(0, inside(7), 1, 10001),
	}, climateOf(
		1, 7, 1, 10000, 1,
		1, 7, 2, 10100, 0,
		1, 19, 12, 8000, 0,
		2, 19, 12, 1800, 0,
		4, 6, 1, 5, 0,
		4, 7, 1, -9, 0,
		4, 7, 2, -8, 1,
		5, 7, 2, 8, 0,
		11, 6, 1, 2400, 0,
		11, 7, 2, 2500, 0,
	))
}

// P13.3: the month is that of the date, from the first minute of a month to its last one.
func TestLearnByMonth(t *testing.T) {
	for year := 2000; year <= 2099; year++ {
		var l []api.Report
		var want api.Climate
		for month := 1; month <= 12; month++ {
			l = append(l, report(minuteOf(year, month, 1, 0, 0), inside(9), 2, 2000+month), report(minuteOf(year, month+1, 1, 0, 0)-1, inside(9), 2, 2100+month))
			want.Normals = append(want.Normals, api.Normal{Element: 2, Face: 9, Month: month, Mean: 2050 + month, Spread: 50})
		}
		checkLearn(t, l, want)
	}
}

// P13.3: kinds and names do not matter.
func TestLearnOfAnyStations(t *testing.T) {
	l := of(1, 10130, 10131, 10132, 10133, 10134, 10135)
	for i, kind := range []int{api.Land, api.Buoy, 0, 4, least, most} {
		l[i].Kind, l[i].Name = kind, []string{"01234", "A0001", "", "no name", "\xff", "DELTA"}[i]
	}
	checkLearn(t, l, climateOf(1, 0, 1, 10132, 3))
}

// faults returns reports by the error that they have.
func faults() map[api.Errno][]api.Report {
	l := map[api.Errno][]api.Report{}
	add := func(e api.Errno, r api.Report) { l[e] = append(l[e], r) }
	for _, numbers := range [][]int{nil, {1, 10130}, {12, 0}, {1, 7999}, {2, 2800, 1, 10130}} {
		for _, p := range wrongPlaces() {
			add(api.ErrRange, report(5, p, numbers...))
			add(api.ErrRange, report(-1, p, numbers...))
		}
		for _, same := range addresses() {
			for _, p := range same[1:] {
				add(api.ErrRange, report(5, p, numbers...))
			}
		}
		for _, minute := range wrongMinutes() {
			add(api.ErrRange, report(minute, inside(0), numbers...))
		}
	}
	for _, code := range badElements() {
		add(api.ErrKind, report(5, inside(0), code, 0))
		add(api.ErrKind, report(5, inside(0), 1, 0, 1, 0, code, 10000))
	}
	for code := 1; code <= api.MaxElements; code++ {
		for _, value := range []int{ranges[code][0] - 1, ranges[code][1] + 1, least, most} {
			add(api.ErrRange, report(5, inside(0), code, value))
			add(api.ErrRange, report(5, inside(0), code, value, 1, 10000))
		}
	}
	add(api.ErrOrder, report(5, inside(0), 2, 2800, 1, 10000))
	add(api.ErrOrder, report(5, inside(0), 1, 10000, 1, 10000))
	add(api.ErrOrder, report(5, inside(0), 1, 10000, 2, 2800, 11, 2500, 10, 5000))
	return l
}

// P13.3: each error by itself, in any of several reports.
func TestLearnErrors(t *testing.T) {
	for e, l := range faults() {
		for _, r := range l {
			checkLearnError(t, []api.Report{r}, e)
			for i := range 4 {
				checkLearnError(t, slices.Insert(of(1, 10130, 10131, 10132), i, r), e)
			}
		}
	}
	for _, same := range addresses() {
		checkLearn(t, []api.Report{report(5, same[0], 1, 10130)}, climateOf(1, same[0].Face, 1, 10130, 0))
	}
	for code := 1; code <= api.MaxElements; code++ {
		for _, value := range ranges[code] {
			checkLearn(t, of(code, value), climateOf(code, 0, 1, value, 0))
		}
	}
}

// P13.3: the error of the first report that has one, and of several errors of a report that of its Place and Time.
func TestLearnReturnsTheFirstError(t *testing.T) {
	for e, l := range faults() {
		for other, behind := range faults() {
			for i, r := range l {
				s := behind[i%len(behind)]
				checkLearnError(t, []api.Report{r, s}, e)
				checkLearnError(t, []api.Report{s, r}, other)
				checkLearnError(t, []api.Report{report(0, inside(1), 1, 10130), s, report(0, inside(1)), r, s}, other)
			}
		}
	}
}

// every returns reports with a reading for each of the first n combinations of a month, a face and an element.
func every(n int) []api.Report {
	var l []api.Report
	for i := range n {
		code := i/240%11 + 1
		l = append(l, report(minuteOf(2001, i%12+1, 7, 8, 9), inside(i/12%20), code, ranges[code][0]+i%50))
	}
	return l
}

// P13.3: as many normals as there may be, and one more; the errors of reports come before ErrLimit.
func TestLearnLimit(t *testing.T) {
	got, e := Learn(every(api.MaxNormals))
	if e != api.OK || len(got.Normals) != api.MaxNormals {
		t.Fatalf("Learn of %d normals: %d\n%s", api.MaxNormals, e, text(got))
	}
	many := slices.Concat(every(api.MaxNormals), every(150), every(77), every(api.MaxNormals), []api.Report{report(0, inside(19))})
	again, e := Learn(many)
	if e != api.OK || text(again) != text(got) {
		t.Fatalf("Learn of %d normals: %d\n%s, not\n%s", api.MaxNormals, e, text(again), text(got))
	}
	for _, n := range []int{api.MaxNormals + 1, 240, 1000, 2640} {
		checkLearnError(t, every(n), api.ErrLimit)
	}
	// A report with many elements is enough to exceed it.
	all := every(api.MaxNormals - 10)
	last := report(0, inside(19))
	for code := 1; code <= api.MaxElements; code++ {
		last.Readings = append(last.Readings, api.Reading{Element: code, Value: ranges[code][1]})
	}
	checkLearnError(t, append(all, last), api.ErrLimit)
	last.Readings = last.Readings[1:]
	if got, e := Learn(append(all, last)); e != api.OK || len(got.Normals) != api.MaxNormals {
		t.Fatalf("Learn of %d normals: %d\n%s", api.MaxNormals, e, text(got))
	}
	for e, l := range faults() {
		for _, r := range l {
			checkLearnError(t, append(every(api.MaxNormals+1), r), e)
			checkLearnError(t, append([]api.Report{r}, every(api.MaxNormals+1)...), e)
		}
	}
}

// learned returns the climate of valid reports by lists of the values of each element, face and month.
func learned(l []api.Report) api.Climate {
	var values [12][20][13][]int
	for _, r := range l {
		month := time.Date(2000, 1, 1, 0, r.Time, 0, 0, time.UTC).Month()
		for _, x := range r.Readings {
			own := &values[x.Element][r.Place.Face][month]
			*own = append(*own, x.Value)
		}
	}
	var c api.Climate
	for code := range values {
		for face := range values[code] {
			for month, own := range values[code][face] {
				if len(own) > 0 {
					mean, spread := meanAndSpread(own)
					c.Normals = append(c.Normals, api.Normal{Element: code, Face: face, Month: month, Mean: mean, Spread: spread})
				}
			}
		}
	}
	return c
}

// meanAndSpread returns the greatest number that, taken as often as there are values, is not more than their sum, and the greatest difference from it.
func meanAndSpread(values []int) (int, int) {
	mean, rest := least, 0
	for n := -1000; n <= 11000 && rest >= 0; n++ {
		rest = 0
		for _, value := range values {
			rest += value - n
		}
		if rest >= 0 {
			mean = n
		}
	}
	spread := 0
	for _, value := range values {
		spread = max(spread, value-mean, mean-value)
	}
	return mean, spread
}

// randomReports returns valid reports on few faces and in few months, so that many readings belong together.
func randomReports(random *rand.Rand) []api.Report {
	var l []api.Report
	faces, months, n := random.Intn(4)+1, random.Intn(4)+1, random.Intn(30)
	for range n {
		month := random.Intn(months)*11/3 + 1
		r := report(minuteOf(2000+random.Intn(100), month, random.Intn(28)+1, random.Intn(24), random.Intn(60)), inside(random.Intn(faces)*19/3))
		for code := 1; code <= api.MaxElements; code++ {
			if random.Intn(3) == 0 {
				low, high := ranges[code][0], ranges[code][1]
				r.Readings = append(r.Readings, api.Reading{Element: code, Value: low + random.Intn(high-low+1)})
			}
		}
		l = append(l, r)
	}
	return l
}

// P13.3: against lists of all values; and the consequences: the climate is valid, does not depend on the order of the reports, and none of their readings is farther from the Mean than the Spread.
func TestLearn(t *testing.T) {
	random := rand.New(rand.NewSource(2))
	for range 400 {
		l := randomReports(random)
		want := learned(l)
		if len(want.Normals) > api.MaxNormals {
			t.Fatalf("%d normals", len(want.Normals))
		}
		checkLearn(t, l, want)
		checkValidate(t, want, api.OK)
		random.Shuffle(len(l), func(i, j int) { l[i], l[j] = l[j], l[i] })
		checkLearn(t, l, want)
		slices.Reverse(l)
		checkLearn(t, l, want)
		for _, r := range l {
			for _, x := range r.Readings {
				n, e := Lookup(want, x.Element, r.Place, r.Time)
				if e != api.OK || x.Value > n.Mean+n.Spread || x.Value < n.Mean-n.Spread {
					t.Fatalf("Lookup of %v in %v = %v, %d", x, r, n, e)
				}
			}
		}
	}
}

// P13.3: many reports with few normals.
func TestLearnOfManyReports(t *testing.T) {
	var l []api.Report
	for i := range 100000 {
		l = append(l, report(i%44640, inside(17), 1, 11000, 4, i%2000-1000))
	}
	checkLearn(t, l, climateOf(1, 17, 1, 11000, 0, 4, 17, 1, -1, 1000))
}
