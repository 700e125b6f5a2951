// Package clock counts minutes from 2000-01-01 00:00 to the end of 2099 and converts them to dates of the Gregorian calendar.
package clock

import "synoptic/api"

const (
	firstYear    = 2000
	lastYear     = 2099
	months       = 12
	hourMinutes  = 60
	dayMinutes   = 24 * hourMinutes
	fourYearDays = 4*365 + 1
)

// lengths holds the days of the months of a year that is not a leap year.
var lengths = [months]int{31, 28, 31, 30, 31, 30, 31, 31, 30, 31, 30, 31}

// Days returns the number of days of a month, and 0 if the year or the month is out of range.
func Days(year, month int) int {
	if year < firstYear || year > lastYear || month < 1 || month > months {
		return 0
	}
	if month == 2 && year%4 == 0 {
		return 29
	}
	return lengths[month-1]
}

// Valid reports whether c is a date and a time of day of the years 2000 to 2099.
func Valid(c api.Civil) bool {
	// Days is 0 for a month that does not exist, so that no day of it is valid.
	return c.Day >= 1 && c.Day <= Days(c.Year, c.Month) && timeOfDay(c.Hour, c.Minute)
}

// timeOfDay reports whether a day has this hour and this minute.
func timeOfDay(hour, minute int) bool {
	return hour >= 0 && hour <= 23 && minute >= 0 && minute <= 59
}

// inRange reports whether a minute belongs to the years 2000 to 2099.
func inRange(minute int) bool {
	return minute >= 0 && minute <= api.MaxMinute
}

// Minutes returns the minute of a date; ErrRange if c is not valid.
func Minutes(c api.Civil) (int, api.Errno) {
	if !Valid(c) {
		return 0, api.ErrRange
	}
	days := daysBefore(c.Year) + c.Day - 1
	for month := 1; month < c.Month; month++ {
		days += Days(c.Year, month)
	}
	return days*dayMinutes + c.Hour*hourMinutes + c.Minute, api.OK
}

// daysBefore returns the number of days from 2000-01-01 to the beginning of a year.
func daysBefore(year int) int {
	years := year - firstYear
	// The leap year is the first of each four, so a part of four years already contains its leap day.
	return 365*years + (years+3)/4
}

// Date returns the date of a minute; ErrRange if it is not in the range 0 to MaxMinute.
func Date(minute int) (api.Civil, api.Errno) {
	if !inRange(minute) {
		return api.Civil{}, api.ErrRange
	}
	day := minute / dayMinutes
	rest := minute % dayMinutes
	// Exact, although years differ in length: the quarter days that the three shorter years lack never add up to a whole one.
	year := firstYear + 4*day/fourYearDays
	day -= daysBefore(year)
	month := 1
	for day >= Days(year, month) {
		day -= Days(year, month)
		month++
	}
	return api.Civil{Year: year, Month: month, Day: day + 1, Hour: rest / hourMinutes, Minute: rest % hourMinutes}, api.OK
}

// Resolve returns the minute nearest to near that has this day of the month and this time of day, and of two equally near ones the lesser.
func Resolve(day, hour, minute, near int) (int, api.Errno) {
	if day < 1 || day > 31 || !timeOfDay(hour, minute) || !inRange(near) {
		return 0, api.ErrRange
	}
	c, _ := Date(near)
	middle := c.Year*months + c.Month - 1
	best, found := 0, false
	// Of two successive months at least one has the day, so the nearest minutes before and behind near are at most two months away.
	for month := middle - 2; month <= middle+2; month++ {
		m, e := Minutes(api.Civil{Year: month / months, Month: month%months + 1, Day: day, Hour: hour, Minute: minute})
		if e == api.OK && (!found || distance(m, near) < distance(best, near)) {
			best, found = m, true
		}
	}
	return best, api.OK
}

// distance returns how many minutes are between two minutes.
func distance(a, b int) int {
	return max(a-b, b-a)
}
