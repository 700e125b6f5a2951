package clock

import (
	"testing"

	"synoptic/api"
)

const (
	least = -1 << 63
	most  = 1<<63 - 1
)

func civil(year, month, day, hour, minute int) api.Civil {
	return api.Civil{Year: year, Month: month, Day: day, Hour: hour, Minute: minute}
}

func mustMinutes(t *testing.T, c api.Civil) int {
	t.Helper()
	m, e := Minutes(c)
	if e != api.OK {
		t.Fatalf("Minutes(%v): error %d", c, e)
	}
	return m
}

// eachDay calls f with all days from 2000 to 2099 in order, counted by a calendar that uses nothing of the package.
func eachDay(f func(number, year, month, day int)) {
	number := 0
	for year := 2000; year <= 2099; year++ {
		for month := 1; month <= 12; month++ {
			length := 31
			switch month {
			case 4, 6, 9, 11:
				length = 30
			case 2:
				length = 28
				if year%4 == 0 {
					length = 29
				}
			}
			for day := 1; day <= length; day++ {
				f(number, year, month, day)
				number++
			}
		}
	}
}

// P1.1
func TestDays(t *testing.T) {
	want := map[[2]int]int{}
	eachDay(func(_, year, month, _ int) { want[[2]int{year, month}]++ })
	for year := 1990; year <= 2110; year++ {
		for month := -13; month <= 26; month++ {
			if got := Days(year, month); got != want[[2]int{year, month}] {
				t.Errorf("Days(%d, %d) = %d, not %d", year, month, got, want[[2]int{year, month}])
			}
		}
	}
	for _, x := range [][2]int{{least, 1}, {most, 1}, {2000, least}, {2000, most}, {least, least}, {most, most}, {0, 0}} {
		if got := Days(x[0], x[1]); got != 0 {
			t.Errorf("Days(%d, %d) = %d, not 0", x[0], x[1], got)
		}
	}
}

var validCivils = []api.Civil{
	civil(2000, 1, 1, 0, 0),
	civil(2000, 2, 29, 0, 0),
	civil(2096, 2, 29, 12, 30),
	civil(2001, 2, 28, 23, 59),
	civil(2050, 4, 30, 9, 10),
	civil(2099, 12, 31, 23, 59),
}

var invalidCivils = []api.Civil{
	{},
	civil(1999, 12, 31, 23, 59),
	civil(2100, 1, 1, 0, 0),
	civil(2000, 0, 1, 0, 0),
	civil(2000, 13, 1, 0, 0),
	civil(2000, 1, 0, 0, 0),
	civil(2000, 1, -1, 0, 0),
	civil(2000, 1, 32, 0, 0),
	civil(2000, 2, 30, 0, 0),
	civil(2001, 2, 29, 0, 0),
	civil(2050, 4, 31, 0, 0),
	civil(2000, 1, 1, -1, 0),
	civil(2000, 1, 1, 24, 0),
	civil(2000, 1, 1, 0, -1),
	civil(2000, 1, 1, 0, 60),
	civil(least, 1, 1, 0, 0),
	civil(most, 1, 1, 0, 0),
	civil(2000, least, 1, 0, 0),
	civil(2000, most, 1, 0, 0),
	civil(2000, 1, least, 0, 0),
	civil(2000, 1, most, 0, 0),
	civil(2000, 1, 1, least, 0),
	civil(2000, 1, 1, most, 0),
	civil(2000, 1, 1, 0, least),
	civil(2000, 1, 1, 0, most),
}

// P1.1
func TestValid(t *testing.T) {
	for _, c := range validCivils {
		if !Valid(c) {
			t.Errorf("Valid(%v) is false", c)
		}
	}
	for _, c := range invalidCivils {
		if Valid(c) {
			t.Errorf("Valid(%v) is true", c)
		}
	}
}

// P1.2
func TestMinutesAndDateOfEveryDay(t *testing.T) {
	days := 0
	eachDay(func(number, year, month, day int) {
		days++
		for _, time := range [][2]int{{0, 0}, {0, 1}, {1, 0}, {12, 34}, {23, 59}} {
			c := civil(year, month, day, time[0], time[1])
			m := number*1440 + time[0]*60 + time[1]
			if got, e := Minutes(c); got != m || e != api.OK {
				t.Fatalf("Minutes(%v) = %d, %d, not %d", c, got, e, m)
			}
			if got, e := Date(m); got != c || e != api.OK {
				t.Fatalf("Date(%d) = %v, %d, not %v", m, got, e, c)
			}
		}
	})
	if days*1440 != api.MaxMinute+1 {
		t.Errorf("%d days do not end with MaxMinute", days)
	}
}

// P1.2
func TestMinutesAndDateOfEveryMinuteOfADay(t *testing.T) {
	for rest := range 1440 {
		m := 84960 + rest
		c := civil(2000, 2, 29, rest/60, rest%60)
		if got, e := Minutes(c); got != m || e != api.OK {
			t.Errorf("Minutes(%v) = %d, %d, not %d", c, got, e, m)
		}
		if got, e := Date(m); got != c || e != api.OK {
			t.Errorf("Date(%d) = %v, %d, not %v", m, got, e, c)
		}
	}
}

// P1.2
func TestMinutesAndDateOutOfRange(t *testing.T) {
	for _, c := range invalidCivils {
		if got, e := Minutes(c); got != 0 || e != api.ErrRange {
			t.Errorf("Minutes(%v) = %d, %d, not ErrRange", c, got, e)
		}
	}
	for _, m := range []int{-1, api.MaxMinute + 1, least, most} {
		if got, e := Date(m); got != (api.Civil{}) || e != api.ErrRange {
			t.Errorf("Date(%d) = %v, %d, not ErrRange", m, got, e)
		}
	}
}

// nearest returns what the promise says of Resolve, by a look at all days.
func nearest(day, hour, minute, near int) int {
	best, away := -1, most
	eachDay(func(number, _, _, d int) {
		m := number*1440 + hour*60 + minute
		if d == day && max(m-near, near-m) < away {
			best, away = m, max(m-near, near-m)
		}
	})
	return best
}

func checkResolve(t *testing.T, day, hour, minute, near, want int) {
	t.Helper()
	if got, e := Resolve(day, hour, minute, near); got != want || e != api.OK {
		t.Errorf("Resolve(%d, %d, %d, %d) = %d, %d, not %d", day, hour, minute, near, got, e, want)
	}
}

// P1.3
func TestResolveOfEveryDay(t *testing.T) {
	nears := []int{0, 1, api.MaxMinute - 1, api.MaxMinute}
	for _, year := range []int{2000, 2001, 2099} {
		for month := 1; month <= 12; month++ {
			first := mustMinutes(t, civil(year, month, 1, 0, 0))
			nears = append(nears, first, first+721, first+14*1440, first+(Days(year, month)-1)*1440+1439)
		}
	}
	for _, near := range nears {
		for day := 1; day <= 31; day++ {
			checkResolve(t, day, 0, 0, near, nearest(day, 0, 0, near))
			checkResolve(t, day, 23, 59, near, nearest(day, 23, 59, near))
		}
	}
}

// P1.3: the example of the chapter, months without the day, ties, and the ends of the range.
func TestResolve(t *testing.T) {
	at := func(year, month, day, hour, minute int) int {
		return mustMinutes(t, civil(year, month, day, hour, minute))
	}
	for _, x := range []struct{ day, hour, minute, near, want int }{
		{31, 12, 0, at(2000, 2, 20, 0, 0), at(2000, 1, 31, 12, 0)},
		{31, 0, 0, at(2001, 3, 1, 0, 0), at(2001, 1, 31, 0, 0)},
		{30, 0, 0, at(2001, 3, 1, 0, 0), at(2001, 3, 30, 0, 0)},
		{31, 0, 0, at(2000, 6, 30, 12, 0), at(2000, 5, 31, 0, 0)},
		{31, 0, 0, at(2000, 6, 30, 12, 1), at(2000, 7, 31, 0, 0)},
		{15, 0, 0, at(2001, 3, 1, 0, 0), at(2001, 2, 15, 0, 0)},
		{15, 0, 0, at(2001, 3, 1, 0, 1), at(2001, 3, 15, 0, 0)},
		{1, 1, 0, at(2004, 12, 31, 23, 0), at(2005, 1, 1, 1, 0)},
		{31, 23, 59, 0, at(2000, 1, 31, 23, 59)},
		{1, 0, 0, api.MaxMinute, at(2099, 12, 1, 0, 0)},
		{31, 23, 59, api.MaxMinute, api.MaxMinute},
		{1, 0, 0, 0, 0},
	} {
		checkResolve(t, x.day, x.hour, x.minute, x.near, x.want)
	}
}

// P1.3 and the consequence: a minute less than 14 days away is found again.
func TestResolveFindsNearMinutes(t *testing.T) {
	for near := 0; near <= api.MaxMinute; near += 10007 {
		for _, away := range []int{-20159, -1441, -1, 0, 1, 1440, 20159} {
			m := near + away
			if c, e := Date(m); e == api.OK {
				checkResolve(t, c.Day, c.Hour, c.Minute, near, m)
			}
		}
	}
}

// P1.3
func TestResolveOutOfRange(t *testing.T) {
	for _, x := range [][4]int{
		{0, 0, 0, 0}, {32, 0, 0, 0}, {-1, 0, 0, 0}, {least, 0, 0, 0}, {most, 0, 0, 0},
		{1, -1, 0, 0}, {1, 24, 0, 0}, {1, least, 0, 0}, {1, most, 0, 0},
		{1, 0, -1, 0}, {1, 0, 60, 0}, {1, 0, least, 0}, {1, 0, most, 0},
		{1, 0, 0, -1}, {1, 0, 0, api.MaxMinute + 1}, {1, 0, 0, least}, {1, 0, 0, most},
	} {
		if got, e := Resolve(x[0], x[1], x[2], x[3]); got != 0 || e != api.ErrRange {
			t.Errorf("Resolve(%v) = %d, %d, not ErrRange", x, got, e)
		}
	}
}
