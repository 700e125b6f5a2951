package element

import (
	"strconv"
	"strings"

	"synoptic/api"
)

// Format returns the text of a reading; ErrKind if its Element does not exist, ErrRange if its Value is not within the range.
func Format(r api.Reading) (string, api.Errno) {
	if e := check(r); e != api.OK {
		return "", e
	}
	info, _ := Describe(r.Element)
	start := info.Letter
	if r.Value < 0 {
		start += "-"
	}
	return start + digits(max(r.Value, -r.Value), info.Digits), api.OK
}

// digits returns the text of a number that is not negative, with leading zeros up to the width.
func digits(n, width int) string {
	s := strconv.Itoa(n)
	return strings.Repeat("0", width-len(s)) + s
}

// Parse returns the valid reading whose text is s; ErrSyntax if there is none.
func Parse(s string) (api.Reading, api.Errno) {
	if s == "" {
		return api.Reading{}, api.ErrSyntax
	}
	code, e := ByLetter(s[:1])
	value, err := strconv.Atoi(s[1:])
	if e != api.OK || err != nil {
		return api.Reading{}, api.ErrSyntax
	}
	r := api.Reading{Element: code, Value: value}
	// A number can be written in several ways, and not each of them is the text of a reading: only the text itself decides.
	if text, e := Format(r); e != api.OK || text != s {
		return api.Reading{}, api.ErrSyntax
	}
	return r, api.OK
}
