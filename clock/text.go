package clock

import (
	"strconv"
	"strings"

	"synoptic/api"
)

const textLength = len("YYYY-MM-DD HH:MM")

// Format returns the text of a minute, YYYY-MM-DD HH:MM; ErrRange if it is not in the range 0 to MaxMinute.
func Format(minute int) (string, api.Errno) {
	c, e := Date(minute)
	if e != api.OK {
		return "", e
	}
	return strconv.Itoa(c.Year) + "-" + twoDigits(c.Month) + "-" + twoDigits(c.Day) + " " + twoDigits(c.Hour) + ":" + twoDigits(c.Minute), api.OK
}

// twoDigits returns the text of a number from 0 to 99, with a leading zero.
func twoDigits(n int) string {
	s := strconv.Itoa(n)
	return strings.Repeat("0", 2-len(s)) + s
}

// Parse returns the minute whose text is s; ErrSyntax if there is none.
func Parse(s string) (int, api.Errno) {
	if len(s) != textLength {
		return 0, api.ErrSyntax
	}
	minute, e := Minutes(api.Civil{
		Year:   number(s[0:4]),
		Month:  number(s[5:7]),
		Day:    number(s[8:10]),
		Hour:   number(s[11:13]),
		Minute: number(s[14:16]),
	})
	if e != api.OK {
		return 0, api.ErrSyntax
	}
	// Bytes that are not digits may also give a date, and the separators were not looked at: only the text itself decides.
	if text, _ := Format(minute); text != s {
		return 0, api.ErrSyntax
	}
	return minute, api.OK
}

// number returns the value of the digits of s, and some value if other bytes are among them.
func number(s string) int {
	n := 0
	for i := range len(s) {
		n = 10*n + int(s[i]) - '0'
	}
	return n
}
