package bulletin

import (
	"iter"
	"strings"

	"synoptic/api"
	"synoptic/group"
	"synoptic/stamp"
)

const (
	firstWord = "SYNOP"
	corrected = "CC"
	delayed   = "RR"
	headWords = 3 // the first word, centre and time
	mostWords = headWords + 1
	lineFeed  = "\n"
	reportEnd = "=" + lineFeed
)

// Format returns the text of a bulletin; the error of Validate if it is not valid, and ErrLimit if the text has more than MaxText bytes.
func Format(b api.Bulletin) (string, api.Errno) {
	if e := Validate(b); e != api.OK {
		return "", e
	}
	text := heading(b) + lineFeed
	for _, r := range b.Reports {
		report, _ := group.Format(r)
		text += report + reportEnd
	}
	if len(text) > api.MaxText {
		return "", api.ErrLimit
	}
	return text, api.OK
}

// heading returns the heading of a valid bulletin.
func heading(b api.Bulletin) string {
	time, _ := stamp.Format(b.Time)
	words := []string{firstWord, b.Centre, time}
	if b.Correction != 0 {
		words = append(words, corrected+letter(b.Correction))
	}
	if b.Delayed != 0 {
		words = append(words, delayed+letter(b.Delayed))
	}
	return strings.Join(words, " ")
}

// letter returns the letter with a number from 1 to 26.
func letter(n int) string {
	return capitals[n-1 : n]
}

// Parse returns the bulletin of a text and the numbers of its damaged lines, ascending: the time is the one nearest to near that the heading names, and the reports are those of all lines that are not damaged. ErrRange if near is not in the range 0 to MaxMinute, ErrLimit if s has more than MaxText bytes, ErrSyntax if it does not begin with a heading, and ErrLimit if more than MaxReports lines follow.
func Parse(s string, near int) (api.Bulletin, []int, api.Errno) {
	switch {
	case !within(near, api.MaxMinute):
		return api.Bulletin{}, nil, api.ErrRange
	case len(s) > api.MaxText:
		return api.Bulletin{}, nil, api.ErrLimit
	}
	first, rest, found := strings.Cut(s, lineFeed)
	if !found {
		return api.Bulletin{}, nil, api.ErrSyntax
	}
	b, e := readHeading(first, near)
	if e != api.OK {
		return api.Bulletin{}, nil, e
	}
	var damaged []int
	for number, line := range lines(rest) {
		if number > api.MaxReports {
			return api.Bulletin{}, nil, api.ErrLimit
		}
		r, e := readLine(line, b.Time)
		if e != api.OK {
			damaged = append(damaged, number)
			continue
		}
		b.Reports = append(b.Reports, r)
	}
	return b, damaged, api.OK
}

// readHeading returns the bulletin without reports that has this heading, with the time nearest to near; ErrSyntax if it is no heading.
func readHeading(s string, near int) (api.Bulletin, api.Errno) {
	// What is too much stays in the last word, which then is no count.
	words := strings.SplitN(s, " ", mostWords)
	if len(words) < headWords || words[0] != firstWord || !validCentre(words[1]) {
		return api.Bulletin{}, api.ErrSyntax
	}
	time, e := stamp.Parse(words[2], near)
	if e != api.OK {
		return api.Bulletin{}, api.ErrSyntax
	}
	b := api.Bulletin{Centre: words[1], Time: time}
	if len(words) == headWords {
		return b, api.OK
	}
	b.Correction = count(words[headWords], corrected)
	b.Delayed = count(words[headWords], delayed)
	if b.Correction == 0 && b.Delayed == 0 {
		return api.Bulletin{}, api.ErrSyntax
	}
	return b, api.OK
}

// count returns the number of the letter of a word that consists of a beginning and this letter, and 0 if it does not.
func count(word, beginning string) int {
	rest, found := strings.CutPrefix(word, beginning)
	if !found || len(rest) != 1 {
		return 0
	}
	return strings.Index(capitals, rest) + 1
}

// lines returns the lines of a text with their numbers, from 1 on. Each contains its line feed, which only the last one can lack.
func lines(s string) iter.Seq2[int, string] {
	return func(yield func(number int, line string) bool) {
		rest := s
		for number := 1; rest != ""; number++ {
			end := len(rest)
			if i := strings.Index(rest, lineFeed); i >= 0 {
				end = i + len(lineFeed)
			}
			if !yield(number, rest[:end]) {
				return
			}
			rest = rest[end:]
		}
	}
}

// readLine returns the report of a line; an error if the line is damaged.
func readLine(line string, near int) (api.Report, api.Errno) {
	text, found := strings.CutSuffix(line, reportEnd)
	if !found {
		return api.Report{}, api.ErrSyntax
	}
	return group.Parse(text, near)
}
