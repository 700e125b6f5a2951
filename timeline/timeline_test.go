package timeline

import (
	"slices"
	"testing"

	"synoptic/api"
	"synoptic/group"
)

const (
	least = -1 << 63
	most  = 1<<63 - 1
)

// ranges holds the least and the greatest value of the elements, by code.
var ranges = [12][2]int{
	1: {8000, 11000}, 2: {1800, 3300}, 3: {1800, 3300}, 4: {-1000, 1000}, 5: {-1000, 1000}, 6: {900, 1700},
	7: {2000, 3200}, 8: {2400, 3400}, 9: {2000, 3000}, 10: {4400, 6200}, 11: {2000, 2900},
}

// list returns the readings whose elements and values are given in turn.
func list(numbers ...int) []api.Reading {
	var l []api.Reading
	for x := range slices.Chunk(numbers, 2) {
		l = append(l, api.Reading{Element: x[0], Value: x[1]})
	}
	return l
}

// at returns a report of the station 01234, whose readings are given as elements and values in turn.
func at(minute int, numbers ...int) api.Report {
	return api.Report{Kind: api.Land, Name: "01234", Time: minute, Readings: list(numbers...)}
}

// line returns reports with one reading of an element, given as minutes and values in turn.
func line(code int, numbers ...int) []api.Report {
	var l []api.Report
	for x := range slices.Chunk(numbers, 2) {
		l = append(l, at(x[0], code, x[1]))
	}
	return l
}

// hourly returns reports with one reading of an element, with an hour between them.
func hourly(code int, values ...int) []api.Report {
	var l []api.Report
	for i, value := range values {
		l = append(l, at(60*i, code, value))
	}
	return l
}

// limit returns a control with the steps per hour and the limit of spikes of one element.
func limit(code, step, spike int) api.Control {
	var k api.Control
	k.Steps[code], k.Spikes[code] = step, spike
	return k
}

// named returns the reports of a list as those of a station.
func named(name string, l []api.Report) []api.Report {
	all := copied(l)
	for i := range all {
		all[i].Name = name
	}
	return all
}

// copied returns reports that share no memory with those of a list.
func copied(l []api.Report) []api.Report {
	var all []api.Report
	for _, r := range l {
		r.Readings = slices.Clone(r.Readings)
		all = append(all, r)
	}
	return all
}

// flags returns the flags of this check whose reports and elements are given in turn.
func flags(numbers ...int) []api.Flag {
	var l []api.Flag
	for x := range slices.Chunk(numbers, 2) {
		l = append(l, api.Flag{Report: x[0], Element: x[1], Check: 4})
	}
	return l
}

// checkFlags compares the flags that Check returns with what is expected.
func checkFlags(t *testing.T, l []api.Report, k api.Control, want []api.Flag) {
	t.Helper()
	before := copied(l)
	got, e := Check(l, k)
	if e != api.OK || !slices.Equal(got, want) {
		t.Fatalf("Check = %v, %d, not %v, of %v with the steps %v and the spikes %v", got, e, want, l, k.Steps, k.Spikes)
	}
	if !slices.EqualFunc(l, before, group.Same) {
		t.Fatalf("Check changed its argument %v to %v", before, l)
	}
}

// checkLine compares which indices of a list have a flag of one element with what is expected.
func checkLine(t *testing.T, l []api.Report, code, step, spike int, want ...int) {
	t.Helper()
	var expected []api.Flag
	for _, i := range want {
		expected = append(expected, flags(i, code)...)
	}
	checkFlags(t, l, limit(code, step, spike), expected)
}

// P16.1: the examples of the chapter.
func TestExamples(t *testing.T) {
	checkLine(t, hourly(1, 10000, 10100, 10001), 1, 10, 0, 1)
	checkLine(t, hourly(1, 10000, 10100, 10101), 1, 10, 0)
}

// P16.1: the step rule, by hand.
func TestSteps(t *testing.T) {
	checkLine(t, nil, 1, 10, 10)
	checkLine(t, []api.Report{}, 1, 10, 10)
	checkLine(t, []api.Report{at(0), at(60)}, 1, 10, 10)
	checkLine(t, hourly(1, 8000), 1, 1, 1)
	checkLine(t, hourly(1, 10000, 10010), 1, 10, 0)
	checkLine(t, hourly(1, 10000, 10011), 1, 10, 0, 1)
	checkLine(t, hourly(1, 10000, 9990), 1, 10, 0)
	checkLine(t, hourly(1, 10000, 9989), 1, 10, 0, 1)
	// The first reading is good also if it is the odd one, and then it is the next one that supports the second.
	checkLine(t, hourly(1, 10500, 10000, 10000, 10000), 1, 10, 0)
	checkLine(t, hourly(1, 10500, 10000, 10500), 1, 10, 0, 1)
	// What supports a reading is the next one, not one behind it, and it need not be good itself.
	checkLine(t, hourly(1, 10000, 10500, 10800, 10500, 10100), 1, 10, 0, 1, 2, 3, 4)
	checkLine(t, hourly(1, 10000, 10500, 10800, 10500, 10000), 1, 10, 0, 1, 2, 3)
	checkLine(t, hourly(1, 10000, 10050, 10055, 10100), 1, 10, 0, 3)
	// The last reading is not supported by any.
	checkLine(t, hourly(1, 10000, 10000, 10011), 1, 10, 0, 2)
	// A change just slow, and just not, from the next reading.
	checkLine(t, hourly(1, 10000, 10100, 10110), 1, 10, 0)
	checkLine(t, hourly(1, 10000, 10100, 10111), 1, 10, 0, 1, 2)
	checkLine(t, hourly(1, 10000, 10100, 10090), 1, 10, 0)
	checkLine(t, hourly(1, 10000, 10100, 10089), 1, 10, 0, 1, 2)
	checkLine(t, hourly(4, -1000, 1000, -1000), 4, 1999, 0, 1)
	checkLine(t, hourly(4, -1000, 1000, -1000), 4, 2000, 0)
}

// P16.1: the change is that from the last good reading, and the hours are those from its time.
func TestStepsFromTheLastGoodReading(t *testing.T) {
	checkLine(t, hourly(1, 10000, 10100, 10020), 1, 10, 0, 1)
	checkLine(t, hourly(1, 10000, 10100, 10021), 1, 10, 0, 1, 2)
	checkLine(t, hourly(1, 10000, 10100, 9900, 10030), 1, 10, 0, 1, 2)
	checkLine(t, hourly(1, 10000, 10100, 9900, 10031), 1, 10, 0, 1, 2, 3)
	checkLine(t, hourly(1, 10000, 10010, 10200, 10030), 1, 10, 0, 2)
	checkLine(t, hourly(1, 10000, 10010, 10200, 10031), 1, 10, 0, 2, 3)
	// A supported reading is the last good one for those behind it.
	checkLine(t, hourly(1, 10000, 10100, 10110, 10000, 10140), 1, 10, 0, 3, 4)
	checkLine(t, hourly(1, 10000, 10100, 10110, 10000, 10130), 1, 10, 0, 3)
	// The last good one is the latest, not the nearest value.
	checkLine(t, hourly(1, 10000, 10100, 10110, 10001), 1, 10, 0, 3)
}

// P16.1: hours are rounded up to whole hours.
func TestHours(t *testing.T) {
	for _, minutes := range []int{1, 2, 59, 60, 61, 119, 120, 121, 180, 181, 1439, 1440, 1441} {
		hours := minutes / 60
		if minutes%60 > 0 {
			hours++
		}
		for _, from := range []int{0, 1, 30, 59, 60, 100000, api.MaxMinute - minutes} {
			change := 7 * hours
			checkLine(t, line(1, from, 10000, from+minutes, 10000+change), 1, 7, 0)
			checkLine(t, line(1, from, 10000, from+minutes, 10001+change), 1, 7, 0, 1)
			checkLine(t, line(1, from, 10200, from+minutes, 10200-change), 1, 7, 0)
			checkLine(t, line(1, from, 10200, from+minutes, 10199-change), 1, 7, 0, 1)
		}
		// Also those to the next reading.
		checkLine(t, line(1, 0, 8000, 1, 10000, 1+minutes, 10000+7*hours), 1, 7, 0)
		checkLine(t, line(1, 0, 8000, 1, 10000, 1+minutes, 10001+7*hours), 1, 7, 0, 1, 2)
	}
	checkLine(t, line(1, 0, 8000, api.MaxMinute, 11000), 1, 1, 0)
	checkLine(t, line(1, 0, 8000, 60*2999, 11000), 1, 1, 0, 1)
	checkLine(t, line(1, 0, 8000, 60*2999+1, 11000), 1, 1, 0)
}

// P16.1: the spike rule, by hand.
func TestSpikes(t *testing.T) {
	checkLine(t, hourly(1, 10000, 10010, 10000), 1, 0, 10)
	checkLine(t, hourly(1, 10000, 10011, 10000), 1, 0, 10, 1)
	checkLine(t, hourly(1, 10000, 9990, 10000), 1, 0, 10)
	checkLine(t, hourly(1, 10000, 9989, 10000), 1, 0, 10, 1)
	// Greater or less than both, by more than the limit each.
	checkLine(t, hourly(1, 10000, 10015, 10005), 1, 0, 10)
	checkLine(t, hourly(1, 10005, 10015, 10000), 1, 0, 10)
	checkLine(t, hourly(1, 10000, 10016, 10005), 1, 0, 10, 1)
	checkLine(t, hourly(1, 10005, 10016, 10000), 1, 0, 10, 1)
	checkLine(t, hourly(1, 10000, 9990, 10005), 1, 0, 10)
	checkLine(t, hourly(1, 10005, 9990, 10000), 1, 0, 10)
	checkLine(t, hourly(1, 10000, 9989, 10005), 1, 0, 10, 1)
	checkLine(t, hourly(1, 10005, 9989, 10000), 1, 0, 10, 1)
	// These two differ by at most the limit.
	checkLine(t, hourly(1, 10000, 10100, 10010), 1, 0, 10, 1)
	checkLine(t, hourly(1, 10000, 10100, 10011), 1, 0, 10)
	checkLine(t, hourly(1, 10010, 10100, 10000), 1, 0, 10, 1)
	checkLine(t, hourly(1, 10011, 10100, 10000), 1, 0, 10)
	checkLine(t, hourly(1, 10000, 9900, 10010), 1, 0, 10, 1)
	checkLine(t, hourly(1, 10000, 9900, 10011), 1, 0, 10)
	checkLine(t, hourly(1, 10010, 9900, 10000), 1, 0, 10, 1)
	checkLine(t, hourly(1, 10011, 9900, 10000), 1, 0, 10)
	// Readings on the way from one to the other are no spikes.
	checkLine(t, hourly(1, 10000, 10100, 10200), 1, 0, 10)
	checkLine(t, hourly(1, 10000, 10005, 10010), 1, 0, 1)
	// Neither are the first and the last one, nor readings of a line of two.
	checkLine(t, hourly(1, 8000), 1, 0, 1)
	checkLine(t, hourly(1, 8000, 11000), 1, 0, 1)
	checkLine(t, hourly(1, 10500, 10000, 10000, 9500), 1, 0, 1)
	// Those before and behind may be rejected themselves.
	checkLine(t, hourly(1, 10000, 10100, 10000, 10100), 1, 0, 10, 1, 2)
	checkLine(t, hourly(1, 10000, 10100, 10000, 10100, 10000), 1, 0, 10, 1, 2, 3)
	checkLine(t, hourly(4, -5, 6, -5), 4, 0, 10, 1)
	checkLine(t, hourly(4, 0, -1000, 0, 1000, 0), 4, 0, 999, 1, 3)
	checkLine(t, hourly(4, 0, -1000, 0, 1000, 0), 4, 0, 1000)
}

// P16.1: hours do not matter to the spike rule.
func TestSpikesAtAnyTimes(t *testing.T) {
	for _, behind := range []int{2, 60, 61, 1000, api.MaxMinute} {
		checkLine(t, line(1, 0, 10000, 1, 10011, behind, 10000), 1, 0, 10, 1)
		checkLine(t, line(1, 0, 10000, 1, 10010, behind, 10000), 1, 0, 10)
	}
	checkLine(t, line(1, 0, 10000, api.MaxMinute-1, 10011, api.MaxMinute, 10000), 1, 0, 10, 1)
}

// P16.1: both rules look at the whole line, and a reading that both reject has one flag.
func TestBothRules(t *testing.T) {
	checkLine(t, hourly(1, 10000, 10100, 10001), 1, 10, 10, 1)
	checkLine(t, hourly(1, 10000, 10100, 10001), 1, 100, 10, 1)
	checkLine(t, hourly(1, 10000, 10100, 10001), 1, 10, 100, 1)
	checkLine(t, hourly(1, 10000, 10100, 10001), 1, 100, 100)
	// The step rule rejects the second to the fourth reading, and the spike rule the third and the fourth.
	checkLine(t, hourly(1, 10000, 10200, 10300, 10200, 10300, 10301), 1, 10, 50, 1, 2, 3)
	// The spike rule rejects the second reading, which stays good for the step rule.
	checkLine(t, line(1, 0, 10000, 600, 10100, 601, 10000), 1, 10, 0, 2)
	checkLine(t, line(1, 0, 10000, 600, 10100, 601, 10000), 1, 10, 50, 1, 2)
	checkLine(t, hourly(1, 10000, 10010, 10000, 10020), 1, 10, 9, 1, 3)
	checkLine(t, hourly(1, 10000, 10010, 10000, 10010), 1, 10, 9, 1, 2)
	// The step rule rejects the second reading, which stays before the third one for the spike rule.
	checkLine(t, hourly(1, 10100, 10000, 10120, 10000), 1, 10, 0, 1, 3)
	checkLine(t, hourly(1, 10100, 10000, 10120, 10000), 1, 10, 10, 1, 2, 3)
}

// P16.1: a limit that is 0 rejects nothing, also beside one of the other rule.
func TestNoLimits(t *testing.T) {
	for code := 1; code <= api.MaxElements; code++ {
		low, high := ranges[code][0], ranges[code][1]
		l := hourly(code, low, high, low, low, high, high, low)
		checkLine(t, l, code, 0, 0)
		checkLine(t, l, code, 1, 0, 1, 6)
		checkLine(t, l, code, 0, 1, 1)
		checkLine(t, l, code, 10000, 0)
		checkLine(t, l, code, 0, 10000)
		checkLine(t, l, code, 10000, 10000)
		checkLine(t, hourly(code, low, high), code, 0, 1)
		checkLine(t, hourly(code, low, high), code, 1, 0, 1)
	}
}

// P16.1: the limits of an element are those with its code.
func TestLimitsByCode(t *testing.T) {
	var l []api.Report
	for i := range 3 {
		r := at(60 * i)
		for code := 1; code <= api.MaxElements; code++ {
			r.Readings = append(r.Readings, api.Reading{Element: code, Value: ranges[code][0] + i%2*100})
		}
		l = append(l, r)
	}
	for code := range 12 {
		for other := range 12 {
			var k api.Control
			k.Steps[code], k.Spikes[other] = 99, 99
			var want []api.Flag
			for n := 1; n <= api.MaxElements; n++ {
				if n == code || n == other {
					want = append(want, flags(1, n)...)
				}
			}
			checkFlags(t, l, k, want)
		}
	}
	var k api.Control
	var want []api.Flag
	for code := 1; code <= api.MaxElements; code++ {
		k.Steps[code], k.Spikes[code] = 94+code, 106-code
		if code < 6 || code > 6 {
			want = append(want, flags(1, code)...)
		}
	}
	checkFlags(t, l, k, want)
}

// P16.1: each element has a line of its own, of the reports that have a reading of it.
func TestLinesOfElements(t *testing.T) {
	var k api.Control
	for code := range k.Steps {
		k.Steps[code] = 10
	}
	l := []api.Report{at(0, 1, 10000, 2, 2800), at(60, 2, 2900), at(120, 1, 10020, 3, 2700), at(180, 1, 10041, 2, 2831), at(240, 2, 2801)}
	checkFlags(t, l, k, flags(1, 2, 3, 1, 3, 2))
	// Elements with the same values do not matter to each other.
	checkFlags(t, []api.Report{at(0, 2, 2800), at(60, 3, 2900), at(120, 7, 3000)}, k, nil)
	k = api.Control{}
	for code := range k.Spikes {
		k.Spikes[code] = 10
	}
	checkFlags(t, []api.Report{at(0, 2, 2800), at(60, 2, 2850, 3, 2700), at(120, 3, 2700), at(180, 2, 2800)}, k, flags(1, 2))
	checkFlags(t, []api.Report{at(0, 2, 2800), at(60, 3, 2850), at(120, 2, 2800)}, k, nil)
}

// P16.1: the order is that of the times, the reports of the flags are indices of the list, and the flags are in their order.
func TestOrder(t *testing.T) {
	checkLine(t, line(1, 60, 10100, 0, 10000, 120, 10001), 1, 10, 0, 0)
	checkLine(t, line(1, 120, 10001, 60, 10100, 0, 10000), 1, 10, 0, 1)
	checkLine(t, line(1, 120, 10001, 0, 10000, 60, 10100), 1, 10, 0, 2)
	checkLine(t, line(1, 120, 10100, 60, 10000, 0, 10000), 1, 10, 0, 0)
	checkLine(t, line(1, 180, 10000, 60, 10100, 240, 10100, 120, 10000, 0, 10000), 1, 0, 10, 1)
	var k api.Control
	k.Steps[2], k.Steps[5], k.Spikes[1], k.Spikes[11] = 10, 10, 10, 10
	l := []api.Report{
		at(180, 1, 10100, 2, 2700, 5, 9, 11, 2500), at(60, 1, 10100, 2, 2700, 5, 200, 11, 2600),
		at(240, 1, 10000, 2, 2800, 5, 0, 11, 2500), at(0, 1, 10000, 2, 2800, 5, 0, 11, 2500),
		at(120, 1, 10000, 2, 2800, 5, 0, 11, 2500),
	}
	checkFlags(t, l, k, flags(0, 1, 0, 2, 1, 1, 1, 2, 1, 5, 1, 11, 4, 1))
}

// P16.1: reports of other names do not matter, and those of one name belong together whatever their kinds and places are.
func TestNames(t *testing.T) {
	l := slices.Concat(hourly(1, 10000, 10100, 10001), named("01235", hourly(1, 10100, 10100, 10001)), named("", hourly(1, 10000, 10100, 10001)), named("\xff no name", hourly(1, 9000, 10000, 9000)))
	checkLine(t, l, 1, 10, 0, 1, 5, 7, 10)
	checkLine(t, l, 1, 0, 10, 1, 7, 10)
	for i := range l {
		l[i].Kind = []int{api.Ship, api.Buoy, api.Land, 0, 4, least, most}[i%7]
		l[i].Place = []api.Place{{A: 840}, {Face: 7, B: 420, C: 420}, {}, {Face: most, A: least}}[i%4]
	}
	checkLine(t, l, 1, 10, 0, 1, 5, 7, 10)
	checkLine(t, l, 1, 0, 10, 1, 7, 10)
	// Names are compared bytewise, to their last byte.
	checkLine(t, slices.Concat(named("DELTA", hourly(1, 10000)), named("delta", line(1, 60, 10100)), named("DELT", line(1, 61, 10200)), named("DELTA ", line(1, 62, 10300))), 1, 10, 0)
}

// P16.1: what else a control says does not matter.
func TestOtherParameters(t *testing.T) {
	k := limit(1, 10, 0)
	for _, n := range []int{1, -1, 10001, least, most} {
		k.Hops, k.Thickness, k.Frequency, k.Enter, k.Leave = n, n, n, n, n
		k.Buddies = [12]int{n, n, n, n, n, n, n, n, n, n, n, n}
		checkFlags(t, hourly(1, 10000, 10100, 10001), k, flags(1, 1))
	}
}

// P16.1: a result is new memory, so that changing it does not change another one.
func TestNewMemory(t *testing.T) {
	l := hourly(1, 10000, 10100, 10001, 10200)
	got, _ := Check(l, limit(1, 10, 10))
	for i := range got {
		got[i] = api.Flag{}
	}
	checkLine(t, l, 1, 10, 10, 1, 3)
}
