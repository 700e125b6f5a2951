package clock

import (
	"fmt"
	"testing"

	"synoptic/api"
)

// P1.4
func TestTextOfEveryDay(t *testing.T) {
	eachDay(func(number, year, month, day int) {
		rest := number % 1440
		m := number*1440 + rest
		want := fmt.Sprintf("%04d-%02d-%02d %02d:%02d", year, month, day, rest/60, rest%60)
		if got, e := Format(m); got != want || e != api.OK {
			t.Fatalf("Format(%d) = %q, %d, not %q", m, got, e, want)
		}
		if got, e := Parse(want); got != m || e != api.OK {
			t.Fatalf("Parse(%q) = %d, %d, not %d", want, got, e, m)
		}
	})
}

// P1.4: the examples and the ends of the range.
func TestText(t *testing.T) {
	for m, want := range map[int]string{
		0:             "2000-01-01 00:00",
		1440:          "2000-01-02 00:00",
		84960:         "2000-02-29 00:00",
		api.MaxMinute: "2099-12-31 23:59",
	} {
		if got, e := Format(m); got != want || e != api.OK {
			t.Errorf("Format(%d) = %q, %d, not %q", m, got, e, want)
		}
		if got, e := Parse(want); got != m || e != api.OK {
			t.Errorf("Parse(%q) = %d, %d, not %d", want, got, e, m)
		}
	}
}

// P1.4
func TestFormatOutOfRange(t *testing.T) {
	for _, m := range []int{-1, api.MaxMinute + 1, least, most} {
		if got, e := Format(m); got != "" || e != api.ErrRange {
			t.Errorf("Format(%d) = %q, %d, not ErrRange", m, got, e)
		}
	}
}

func checkNoText(t *testing.T, s string) {
	t.Helper()
	if got, e := Parse(s); got != 0 || e != api.ErrSyntax {
		t.Errorf("Parse(%q) = %d, %d, not ErrSyntax", s, got, e)
	}
}

// P1.4
func TestParseOfOtherTexts(t *testing.T) {
	for _, s := range []string{
		"",
		"2000-01-01",
		"2000-01-01 00:0",
		"2000-01-01 00:000",
		"2000-01-01 00:00 ",
		" 2000-01-01 00:00",
		"2000-1-1 0:0",
		"02000-01-01 00:0",
		"1999-12-31 23:59",
		"2100-01-01 00:00",
		"2000-00-01 00:00",
		"2000-13-01 00:00",
		"2000-01-00 00:00",
		"2001-02-29 00:00",
		"2000-01-32 00:00",
		"2000-01-01 24:00",
		"2000-01-01 00:60",
		"2000-01-01 +1:00",
		"2000-01-01 -1:00",
		"2000-01-01 00:0\n",
		"2000-01-01 00:00\x00",
		"2000-01-0\u0661 00:00",
		// The bytes around the digits stand for 10, for 11 and for -1: sums of them give dates, but are no texts.
		"2000-01-0: 00:00",
		"2000-0;-01 00:00",
		"200:-01-01 00:00",
		"2000-01-1/ 00:00",
		"2000-01-01 00:1/",
		"2000-01-01 1/:00",
	} {
		checkNoText(t, s)
	}
}

// P1.4: a text in which one byte is replaced is either no text or that of another minute.
func TestParseWithOneByteReplaced(t *testing.T) {
	const text = "2012-10-11 11:15"
	for i := range len(text) {
		for b := range 256 {
			s := text[:i] + string([]byte{byte(b)}) + text[i+1:]
			m, e := Parse(s)
			if e != api.OK {
				checkNoText(t, s)
				continue
			}
			if got, _ := Format(m); got != s {
				t.Errorf("Parse(%q) = %d, and this is %q", s, m, got)
			}
		}
	}
}
