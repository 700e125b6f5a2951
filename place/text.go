package place

import (
	"strconv"
	"strings"

	"synoptic/api"
)

const (
	faceDigits   = 2
	weightDigits = 3
	textLength   = faceDigits + 2*weightDigits
)

// Format returns the text of a place: the digits of Face, A and B; ErrRange if p is not valid.
func Format(p api.Place) (string, api.Errno) {
	if !Valid(p) {
		return "", api.ErrRange
	}
	return digits(p.Face, faceDigits) + digits(p.A, weightDigits) + digits(p.B, weightDigits), api.OK
}

// digits returns the text of a number that is not negative, with leading zeros up to the width.
func digits(n, width int) string {
	s := strconv.Itoa(n)
	return strings.Repeat("0", width-len(s)) + s
}

// Parse returns the place whose text is s; ErrSyntax if there is none.
func Parse(s string) (api.Place, api.Errno) {
	if len(s) != textLength || strings.Trim(s, "0123456789") != "" {
		return api.Place{}, api.ErrSyntax
	}
	p := api.Place{
		Face: number(s[:faceDigits]),
		A:    number(s[faceDigits : faceDigits+weightDigits]),
		B:    number(s[faceDigits+weightDigits:]),
	}
	p.C = api.Unit - p.A - p.B
	if !Valid(p) {
		return api.Place{}, api.ErrSyntax
	}
	return p, api.OK
}

// number returns the value of a text of digits.
func number(s string) int {
	n := 0
	for i := range len(s) {
		n = 10*n + int(s[i]-'0')
	}
	return n
}
