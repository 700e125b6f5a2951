package group

import (
	"strings"

	"synoptic/api"
	"synoptic/element"
	"synoptic/place"
	"synoptic/stamp"
)

// kinds holds the words of the kinds of stations, ascending from Land on.
var kinds = [...]string{"LAND", "SHIP", "BUOY"}

const (
	headWords = 3 // kind, name and time
	mostWords = headWords + 1 + api.MaxElements
)

// Format returns the text of a report; the error of Validate if it is not valid.
func Format(r api.Report) (string, api.Errno) {
	if e := Validate(r); e != api.OK {
		return "", e
	}
	time, _ := stamp.Format(r.Time)
	words := []string{kinds[r.Kind-api.Land], r.Name, time}
	if r.Kind != api.Land {
		text, _ := place.Format(r.Place)
		words = append(words, text)
	}
	for _, reading := range r.Readings {
		text, _ := element.Format(reading)
		words = append(words, text)
	}
	return strings.Join(words, " "), api.OK
}

// Parse returns the valid report that has the text s and is readable near a minute; ErrRange if this is not in the range 0 to MaxMinute, and ErrSyntax if there is no such report.
func Parse(s string, near int) (api.Report, api.Errno) {
	if near < 0 || near > api.MaxMinute {
		return api.Report{}, api.ErrRange
	}
	// No text has more words: what is too much stays in the last one, which then is no reading.
	r, e := read(strings.SplitN(s, " ", mostWords), near)
	if e != api.OK || Validate(r) != api.OK {
		return api.Report{}, api.ErrSyntax
	}
	return r, api.OK
}

// read returns the report whose text has these words; it need not be valid. ErrSyntax if a word does not have its form.
func read(words []string, near int) (api.Report, api.Errno) {
	if len(words) < headWords {
		return api.Report{}, api.ErrSyntax
	}
	kind, e := kindOf(words[0])
	if e != api.OK {
		return api.Report{}, e
	}
	time, e := stamp.Parse(words[2], near)
	if e != api.OK {
		return api.Report{}, e
	}
	at, rest, e := readPlace(kind, words[headWords:])
	if e != api.OK {
		return api.Report{}, e
	}
	readings, e := readReadings(rest)
	if e != api.OK {
		return api.Report{}, e
	}
	return api.Report{Kind: kind, Name: words[1], Time: time, Place: at, Readings: readings}, api.OK
}

// kindOf returns the kind with this word.
func kindOf(word string) (int, api.Errno) {
	for i, w := range kinds {
		if w == word {
			return api.Land + i, api.OK
		}
	}
	return 0, api.ErrSyntax
}

// readPlace returns the place of a report of this kind, and the words behind it.
func readPlace(kind int, words []string) (api.Place, []string, api.Errno) {
	if kind == api.Land {
		return api.Place{}, words, api.OK
	}
	if len(words) == 0 {
		return api.Place{}, nil, api.ErrSyntax
	}
	at, e := place.Parse(words[0])
	return at, words[1:], e
}

// readReadings returns the readings whose texts these words are.
func readReadings(words []string) ([]api.Reading, api.Errno) {
	var l []api.Reading
	for _, word := range words {
		r, e := element.Parse(word)
		if e != api.OK {
			return nil, e
		}
		l = append(l, r)
	}
	return l, api.OK
}
