package table

import (
	"synoptic/api"
	"synoptic/element"
)

const (
	leastWidth = 2
	mostScale  = 1000
	mostOffset = 100000
)

// lacksElement reports whether the element of an entry does not exist.
func lacksElement(e api.Entry) bool {
	_, fault := element.Describe(e.Element)
	return fault != api.OK
}

// isFaulty reports whether an entry is not valid.
func isFaulty(e api.Entry) bool {
	return kindOf(e.Code) != ofEntry || lacksElement(e) || !within(e.Width, leastWidth, api.MaxWidth) || !within(e.Scale, 1, mostScale) || !within(e.Least, -mostOffset, mostOffset)
}

// Encode returns the number that stands for a value; ErrRange if the entry is not valid, or there is no such number.
func Encode(e api.Entry, value int) (int, api.Errno) {
	// Unlike value - Least, the ends of the range cannot wrap around.
	if isFaulty(e) || value < e.Least || value >= valueOf(e, absent(e)) {
		return 0, api.ErrRange
	}
	return (value - e.Least) / e.Scale, api.OK
}

// Decode returns the value that a number stands for, and true; 0 and false if the entry is not valid, or the number stands for no value.
func Decode(e api.Entry, n int) (int, bool) {
	if isFaulty(e) || !within(n, 0, absent(e)-1) {
		return 0, false
	}
	return valueOf(e, n), true
}

// absent returns the number by which a valid entry says that its element is absent: all its bits are 1.
func absent(e api.Entry) int {
	return 1<<e.Width - 1
}

// valueOf returns the least value for which a number stands.
func valueOf(e api.Entry, n int) int {
	return e.Least + e.Scale*n
}
