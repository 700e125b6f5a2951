// Package stamp writes and reads stamps: the six digits by which a text names a time, two each for the day of the month, the hour and the minute.
package stamp

import (
	"strings"

	"synoptic/api"
	"synoptic/clock"
)

const length = 6

// Format returns the stamp of a minute; ErrRange if it is not in the range 0 to MaxMinute.
func Format(minute int) (string, api.Errno) {
	c, e := clock.Date(minute)
	if e != api.OK {
		return "", e
	}
	return twoDigits(c.Day) + twoDigits(c.Hour) + twoDigits(c.Minute), api.OK
}

// twoDigits returns the text of a number from 0 to 99, with a leading zero.
func twoDigits(n int) string {
	return string([]byte{byte('0' + n/10), byte('0' + n%10)})
}

// Parse returns the minute that has the stamp s and is nearest to near, as clock.Resolve does; ErrRange if near is not in the range 0 to MaxMinute, and ErrSyntax if s is not the stamp of any minute.
func Parse(s string, near int) (int, api.Errno) {
	if near < 0 || near > api.MaxMinute {
		return 0, api.ErrRange
	}
	if len(s) != length || strings.Trim(s, "0123456789") != "" {
		return 0, api.ErrSyntax
	}
	minute, e := clock.Resolve(number(s[0:2]), number(s[2:4]), number(s[4:6]), near)
	if e != api.OK {
		return 0, api.ErrSyntax
	}
	return minute, api.OK
}

// number returns the value of a text of digits.
func number(s string) int {
	n := 0
	for i := range len(s) {
		n = 10*n + int(s[i]-'0')
	}
	return n
}
