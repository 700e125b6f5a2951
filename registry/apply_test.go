package registry

import (
	"fmt"
	"math/rand"
	"slices"
	"testing"

	"synoptic/api"
	"synoptic/group"
)

// ranges holds the least and the greatest value of the elements, by code.
var ranges = [12][2]int{
	1: {8000, 11000}, 2: {1800, 3300}, 3: {1800, 3300}, 4: {-1000, 1000}, 5: {-1000, 1000}, 6: {900, 1700},
	7: {2000, 3200}, 8: {2400, 3400}, 9: {2000, 3000}, 10: {4400, 6200}, 11: {2000, 2900},
}

// report returns a report whose readings are given as elements and values in turn.
func report(kind int, name string, minute int, at api.Place, numbers ...int) api.Report {
	return api.Report{Kind: kind, Name: name, Time: minute, Place: at, Readings: readings(numbers...)}
}

// checkApply compares what Apply returns with what is expected.
func checkApply(t *testing.T, r api.Registry, x, want api.Report) {
	t.Helper()
	got, e := Apply(r, x)
	if e != api.OK || !group.Same(got, want) {
		t.Fatalf("Apply of %v = %v, %d, not %v, with\n%s", x, got, e, want, text(r))
	}
}

// checkApplyError checks that Apply has an error and no report.
func checkApplyError(t *testing.T, r api.Registry, x api.Report, want api.Errno) {
	t.Helper()
	got, e := Apply(r, x)
	if e != want || !group.Same(got, api.Report{}) {
		t.Fatalf("Apply of %v = %v, %d, not the error %d, with\n%s", x, got, e, want, text(r))
	}
}

// P11.5: the example of the chapter.
func TestApplyExample(t *testing.T) {
	r := registryOf(stationOf(api.Land, "01234", open(0, first, api.Pressure, 3), open(1000, second)))
	checkApply(t, r, report(api.Land, "01234", 999, api.Place{}, 1, 10132), report(api.Land, "01234", 999, first, 1, 10129))
	checkApply(t, r, report(api.Land, "01234", 1000, api.Place{}, 1, 10132), report(api.Land, "01234", 1000, second, 1, 10132))
}

// P11.5
func TestApply(t *testing.T) {
	r := example()
	for _, c := range [][2]api.Report{
		{report(api.Land, "01234", 0, api.Place{}), report(api.Land, "01234", 0, first)},
		{report(api.Land, "01234", 3000, api.Place{}, 1, 9000, 11, 2900), report(api.Land, "01234", 3000, edge, 1, 10000)},
		{report(api.Land, "01234", api.MaxMinute, api.Place{}, 1, 10000, 2, 2800), report(api.Land, "01234", api.MaxMinute, edge, 1, 11000, 2, 2800)},
		{report(api.Land, "0ABCD", 500, api.Place{}, 1, 10132, 2, 2800, 4, 3, 5, -3), report(api.Land, "0ABCD", 500, inner, 1, 10132, 2, 2805, 4, -57, 5, 57)},
		{report(api.Land, "0ABCD", 501, api.Place{}, 3, 2800), report(api.Land, "0ABCD", 501, inner, 3, 2800)},
		{report(api.Buoy, "A0001", 750, edge, 2, 2800, 3, 2800), report(api.Buoy, "A0001", 750, edge, 2, 2800, 3, 2799)},
		{report(api.Ship, "DELTA", 999, edge, 1, 10132, 2, 2800), report(api.Ship, "DELTA", 999, edge, 1, 10132, 2, 2800)},
		{report(api.Ship, "DELTA", 1000, inner, 1, 10132, 2, 2800), report(api.Ship, "DELTA", 1000, inner, 1, 10125, 2, 2802)},
		// Before the first period, and without a station.
		{report(api.Buoy, "A0001", 699, edge, 3, 2800), report(api.Buoy, "A0001", 699, edge, 3, 2800)},
		{report(api.Ship, "DELTA", -1, edge, 1, 10132), report(api.Ship, "DELTA", -1, edge, 1, 10132)},
		{report(api.Ship, "MMMMM", 1000, first, 1, 10132), report(api.Ship, "MMMMM", 1000, first, 1, 10132)},
		{report(api.Buoy, "MMMMM", 1000, api.Place{C: 840}), report(api.Buoy, "MMMMM", 1000, api.Place{C: 840})},
		// What is not valid, but does not matter.
		{report(api.Ship, "", least, first, 1, 10132), report(api.Ship, "", least, first, 1, 10132)},
		{report(api.Buoy, "not a name", most, first), report(api.Buoy, "not a name", most, first)},
		{report(api.Ship, "DELTA", most, first, 2, 2800), report(api.Ship, "DELTA", most, first, 2, 2802)},
		{report(api.Land, "01234", most, api.Place{}, 1, 10000), report(api.Land, "01234", most, edge, 1, 11000)},
		{report(api.Land, "01234", 5, second, 1, 10000), report(api.Land, "01234", 5, first, 1, 9997)},
		{report(api.Land, "01234", 5, api.Place{Face: -1, A: most, B: least, C: 7}, 2, 2000), report(api.Land, "01234", 5, first, 2, 2000)},
	} {
		checkApply(t, r, c[0], c[1])
	}
}

// P11.5: values that leave the range of their element, by each element.
func TestApplyAtTheEndsOfRanges(t *testing.T) {
	for code := 1; code <= api.MaxElements; code++ {
		low, high := ranges[code][0], ranges[code][1]
		for _, bias := range []int{-1000, -999, -1, 0, 1, 2, 1000} {
			for _, s := range []api.Station{stationOf(api.Land, "AAAAA", open(0, inner, code, bias)), stationOf(api.Buoy, "AAAAA", open(0, api.Place{}, code, bias))} {
				for _, value := range []int{low, low + 1, low + 2, low + bias - 1, low + bias, low + bias + 1, (low + high) / 2, high + bias - 1, high + bias, high + bias + 1, high - 1, high} {
					if value < low || value > high {
						continue
					}
					x := report(s.Kind, "AAAAA", 7, inner, code, value)
					want := report(s.Kind, "AAAAA", 7, inner, code, value-bias)
					if value-bias < low || value-bias > high {
						want.Readings = nil
					}
					checkApply(t, registryOf(s), x, want)
				}
			}
		}
	}
	all := registryOf(stationOf(api.Land, "AAAAA", open(0, inner, 1, 1, 2, -1, 3, 1, 4, 1000, 6, 5, 11, -900)))
	x := report(api.Land, "AAAAA", 7, api.Place{}, 1, 8000, 2, 3300, 3, 1801, 4, -1, 5, -1000, 11, 2000)
	checkApply(t, all, x, report(api.Land, "AAAAA", 7, inner, 3, 1800, 5, -1000, 11, 2900))
}

// P11.5: the errors in their order; each one comes before all that are further below.
func TestApplyReturnsTheFirstError(t *testing.T) {
	for want, l := range invalid() {
		for _, r := range l {
			checkApplyError(t, r, report(0, "MMMMM", 0, api.Place{}, 12, 0), want)
			checkApplyError(t, r, report(api.Ship, "MMMMM", 0, inner), want)
		}
	}
	r := example()
	for _, kind := range []int{0, 4, -1, 1<<32 + 1, least, most} {
		for _, x := range []api.Report{report(kind, "MMMMM", 0, api.Place{}, 12, 0), report(kind, "01234", 0, api.Place{}), report(kind, "DELTA", 0, inner, 1, 0)} {
			checkApplyError(t, r, x, api.ErrKind)
		}
	}
	for _, c := range []struct {
		want    api.Errno
		numbers []int
	}{
		{api.ErrKind, []int{0, 0}}, {api.ErrKind, []int{12, 5000}}, {api.ErrKind, []int{1, 10000, -1, 0}}, {api.ErrKind, []int{1, 0, 12, 0}}, {api.ErrKind, []int{2, 2800, 1, 10000, 12, 0}},
		{api.ErrRange, []int{1, 7999}}, {api.ErrRange, []int{1, 11001}}, {api.ErrRange, []int{2, 2800, 1, 7999}}, {api.ErrRange, []int{1, least}}, {api.ErrRange, []int{1, most}},
		{api.ErrOrder, []int{2, 2800, 1, 10000}}, {api.ErrOrder, []int{1, 10000, 1, 10000}},
	} {
		for _, x := range []api.Report{
			report(api.Land, "MMMMM", 0, api.Place{}, c.numbers...), report(api.Land, "01234", -1, api.Place{}, c.numbers...), report(api.Land, "01234", 2000, api.Place{}, c.numbers...),
			report(api.Ship, "01234", 0, api.Place{}, c.numbers...), report(api.Ship, "MMMMM", 0, api.Place{}, c.numbers...), report(api.Land, "01234", 0, api.Place{}, c.numbers...),
		} {
			checkApplyError(t, r, x, c.want)
		}
	}
}

// P11.5: what is missing, of another kind, closed, or at no place.
func TestApplyOfStationsAtFault(t *testing.T) {
	r := example()
	nowhere := []api.Place{{}, {Face: 1}, {A: 839}, {A: 841, B: -1}, {Face: 20, A: 1, B: 1, C: 838}, {Face: 1, A: 840}, {Face: 14, B: 420, C: 420}, {Face: most, A: least, B: most, C: 841}}
	for _, at := range append(nowhere, inner) {
		for _, numbers := range [][]int{nil, {1, 10132}} {
			for _, x := range []api.Report{
				report(api.Land, "MMMMM", 0, at, numbers...), report(api.Land, "", 5000, at, numbers...), report(api.Land, "0123", 0, at, numbers...),
				report(api.Land, "01234", -1, at, numbers...), report(api.Land, "0ABCD", 499, at, numbers...), report(api.Land, "ZZZZZ", api.MaxMinute-1, at, numbers...), report(api.Land, "0ABCD", least, at, numbers...),
				// A buoy has this name, but no period yet.
				report(api.Land, "A0001", 699, at, numbers...),
			} {
				checkApplyError(t, r, x, api.ErrMissing)
			}
			for _, x := range []api.Report{
				report(api.Land, "A0001", 700, at, numbers...), report(api.Land, "A0001", 800, at, numbers...), report(api.Land, "DELTA", 0, at, numbers...),
				report(api.Ship, "A0001", 700, at, numbers...), report(api.Ship, "A0001", 699, at, numbers...), report(api.Ship, "01234", 0, at, numbers...), report(api.Ship, "01234", -1, at, numbers...),
				report(api.Buoy, "DELTA", 0, at, numbers...), report(api.Buoy, "DELTA", -1, at, numbers...), report(api.Buoy, "0ABCD", 0, at, numbers...), report(api.Buoy, "ZZZZZ", 0, at, numbers...),
				report(api.Land, "01234", 2000, at, numbers...), report(api.Land, "01234", 2999, at, numbers...), report(api.Land, "ZZZZZ", api.MaxMinute, at, numbers...), report(api.Land, "ZZZZZ", most, at, numbers...),
				report(api.Buoy, "A0001", 800, at, numbers...), report(api.Buoy, "A0001", api.MaxMinute, at, numbers...),
			} {
				checkApplyError(t, r, x, api.ErrState)
			}
		}
	}
	for _, at := range nowhere {
		for _, x := range []api.Report{
			report(api.Ship, "DELTA", 0, at), report(api.Ship, "DELTA", 1000, at, 1, 10132), report(api.Ship, "DELTA", -1, at), report(api.Buoy, "A0001", 700, at),
			report(api.Buoy, "A0001", 0, at), report(api.Ship, "MMMMM", 0, at, 1, 10132), report(api.Buoy, "MMMMM", 0, at), report(api.Buoy, "", most, at),
		} {
			checkApplyError(t, r, x, api.ErrNone)
		}
	}
}

// randomReport returns a report with valid readings.
func randomReport(random *rand.Rand) api.Report {
	x := report(random.Intn(3)+1, randomName(random), random.Intn(16)-3, []api.Place{{}, first, edge, inner, {Face: 1, A: 840}}[random.Intn(5)])
	for code := 1; code <= api.MaxElements; code++ {
		if random.Intn(2) == 0 {
			x.Readings = append(x.Readings, api.Reading{Element: code, Value: ranges[code][0] + random.Intn(ranges[code][1]-ranges[code][0]+1)})
		}
	}
	return x
}

// applied returns what Apply returns for a valid registry and a report with valid readings.
func applied(m model, x api.Report) (api.Report, api.Errno) {
	s, known := m[x.Name]
	p, found := m.at(x.Name, x.Time)
	if x.Kind == api.Land {
		if !found {
			return api.Report{}, api.ErrMissing
		}
		x.Place = p.Place
	}
	if known && s.kind != x.Kind || found && p.Closed {
		return api.Report{}, api.ErrState
	}
	if !slices.Contains([]api.Place{first, second, edge, inner}, x.Place) {
		return api.Report{}, api.ErrNone
	}
	biases := map[int]int{}
	for _, b := range p.Bias {
		biases[b.Element] = b.Value
	}
	var rest []api.Reading
	for _, b := range x.Readings {
		b.Value -= biases[b.Element]
		if b.Value >= ranges[b.Element][0] && b.Value <= ranges[b.Element][1] {
			rest = append(rest, b)
		}
	}
	x.Readings = rest
	return x, api.OK
}

// P11.5
func TestApplyOfAnyReport(t *testing.T) {
	random := rand.New(rand.NewSource(14))
	counts := map[api.Errno]int{}
	for range 300 {
		r := randomRegistry(random)
		m := modelOf(r)
		for range 40 {
			x := randomReport(random)
			want, e := applied(m, x)
			counts[e]++
			if e != api.OK {
				checkApplyError(t, r, x, e)
				continue
			}
			checkApply(t, r, x, want)
		}
	}
	for _, e := range []api.Errno{api.OK, api.ErrMissing, api.ErrState, api.ErrNone} {
		if counts[e] < 500 {
			t.Errorf("only %d reports with the error %d", counts[e], e)
		}
	}
}

// The consequences: without biases no value changes, and a period does not concern reports of minutes before it.
func TestApplyConsequences(t *testing.T) {
	random := rand.New(rand.NewSource(15))
	for range 300 {
		r := randomRegistry(random)
		without := copied(r)
		for _, s := range without.Stations {
			for i := range s.Periods {
				s.Periods[i].Bias = nil
			}
		}
		for range 20 {
			x := randomReport(random)
			got, e := Apply(without, x)
			if e == api.OK && !slices.Equal(got.Readings, x.Readings) {
				t.Fatalf("Apply of %v without biases = %v", x, got)
			}
			p := randomPeriod(random, x.Kind)
			more, e := Set(r, x.Kind, x.Name, p)
			_, known := modelOf(r)[x.Name]
			if e != api.OK || !known || x.Time >= p.From {
				continue
			}
			got, e = Apply(more, x)
			want, f := Apply(r, x)
			if e != f || !group.Same(got, want) {
				t.Fatalf("a period from %d changes %v", p.From, x)
			}
		}
	}
}

// Rule 2: arguments do not change, and results are new memory.
func TestApplyReturnsNewMemory(t *testing.T) {
	r := roomy(example())
	before := text(behind(r))
	for _, x := range []api.Report{
		report(api.Land, "01234", 0, api.Place{}, 1, 8001, 2, 2800), report(api.Land, "0ABCD", 500, api.Place{}, 1, 10132, 2, 2800), report(api.Ship, "MMMMM", 0, inner, 1, 10132, 2, 2800),
	} {
		want := fmt.Sprint(x.Readings)
		x.Readings = append(make([]api.Reading, 0, 9), x.Readings...)
		got, e := Apply(r, x)
		if e != api.OK {
			t.Fatalf("Apply of %v = %d", x, e)
		}
		for i := range got.Readings {
			got.Readings[i] = api.Reading{Element: 9, Value: 9}
		}
		_ = append(got.Readings, api.Reading{Element: 9, Value: 9})
		if fmt.Sprint(x.Readings) != want || x.Readings[:3][2] != (api.Reading{}) {
			t.Errorf("Apply changes the readings %s to %v", want, x.Readings)
		}
		if text(r) != text(example()) || text(behind(r)) != before {
			t.Errorf("Apply changes the registry to\n%s", text(r))
		}
	}
}

// Rule 1: a bias or a list of readings that is empty is none.
func TestApplyOfEmptyLists(t *testing.T) {
	r := registryOf(stationOf(api.Land, "AAAAA", open(0, inner)))
	r.Stations[0].Periods[0].Bias = []api.Reading{}
	x := report(api.Land, "AAAAA", 7, api.Place{})
	x.Readings = []api.Reading{}
	checkApply(t, r, x, report(api.Land, "AAAAA", 7, inner))
	checkApply(t, r, report(api.Land, "AAAAA", 7, api.Place{}, 1, 10132), report(api.Land, "AAAAA", 7, inner, 1, 10132))
}
