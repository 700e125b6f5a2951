package group

import (
	"fmt"
	"math/rand"
	"slices"
	"strings"
	"testing"
	"time"

	"synoptic/api"
)

// textOf returns the text of a valid report, written anew by the chapters.
func textOf(r api.Report) string {
	date := time.Date(2000, 1, 1, 0, r.Time, 0, 0, time.UTC)
	text := fmt.Sprintf("%s %s %02d%02d%02d", map[int]string{1: "LAND", 2: "SHIP", 3: "BUOY"}[r.Kind], r.Name, date.Day(), date.Hour(), date.Minute())
	if r.Kind != api.Land {
		text += fmt.Sprintf(" %02d%03d%03d", r.Place.Face, r.Place.A, r.Place.B)
	}
	for _, x := range r.Readings {
		sign, width := "", 4
		if x.Value < 0 {
			sign, x.Value = "-", -x.Value
		}
		if x.Element == api.Pressure {
			width = 5
		}
		text += fmt.Sprintf(" %c%s%0*d", ".PTDENABFGJK"[x.Element], sign, width, x.Value)
	}
	return text
}

// checkText compares the text of a valid report with what is expected, and reads it near a minute.
func checkText(t *testing.T, r api.Report, near int, want string) {
	t.Helper()
	if got, e := Format(r); got != want || e != api.OK {
		t.Errorf("Format(%v) = %q, %d, not %q", r, got, e, want)
	}
	if got, e := Parse(want, near); !Same(got, r) || e != api.OK {
		t.Errorf("Parse(%q, %d) = %v, %d, not %v", want, near, got, e, r)
	}
}

// checkNoReport expects an error of Parse, and no report with it.
func checkNoReport(t *testing.T, s string, near int, want api.Errno) {
	t.Helper()
	if got, e := Parse(s, near); !Same(got, api.Report{}) || e != want {
		t.Errorf("Parse(%q, %d) = %v, %d, not the error %d", s, near, got, e, want)
	}
}

// P5.2 and P5.3: the examples of the chapter and other texts written by hand.
func TestText(t *testing.T) {
	day := at(2026, 11, 16, 17, 20)
	for _, x := range []struct {
		r    api.Report
		near int
		text string
	}{
		{report(api.Ship, "DELTA", day, spot(5, 420, 420, 0), 1, 10132, 4, -57), day, "SHIP DELTA 161720 05420420 P10132 E-0057"},
		{report(api.Land, "01234", at(2026, 1, 31, 0, 0), api.Place{}, 2, 2800), at(2026, 2, 10, 9, 0), "LAND 01234 310000 T2800"},
		{report(api.Land, "01234", at(2026, 1, 31, 0, 0), api.Place{}, 2, 2800), at(2026, 2, 28, 23, 59), "LAND 01234 310000 T2800"},
		{report(api.Land, "01234", at(2026, 1, 31, 0, 0), api.Place{}, 2, 2800), at(2026, 3, 1, 12, 0), "LAND 01234 310000 T2800"},
		{report(api.Land, "01234", at(2026, 3, 31, 0, 0), api.Place{}, 2, 2800), at(2026, 3, 1, 12, 1), "LAND 01234 310000 T2800"},
		{report(api.Land, "Z9A0Q", 0, api.Place{}), 0, "LAND Z9A0Q 010000"},
		{report(api.Land, "LAND1", api.MaxMinute, api.Place{}), api.MaxMinute, "LAND LAND1 312359"},
		{report(api.Ship, "00000", day, spot(0, 0, 0, 840)), day + 20159, "SHIP 00000 161720 00000000"},
		{report(api.Ship, "SHIP9", day, spot(0, 840, 0, 0), 2, 2800), day - 20159, "SHIP SHIP9 161720 00840000 T2800"},
		{report(api.Buoy, "B0001", at(2099, 12, 1, 3, 4), spot(19, 1, 20, 819), 5, 0, 11, 2003), api.MaxMinute, "BUOY B0001 010304 19001020 N0000 K2003"},
		{report(api.Buoy, "BUOYS", at(2000, 2, 29, 23, 0), spot(10, 5, 70, 765), 1, 8000, 2, 1800, 3, 3300, 4, -1000, 5, 1000, 6, 900, 7, 2000, 8, 2400, 9, 3000, 10, 6200, 11, 2900), 84960, "BUOY BUOYS 292300 10005070 P08000 T1800 D3300 E-1000 N1000 A0900 B2000 F2400 G3000 J6200 K2900"},
	} {
		checkText(t, x.r, x.near, x.text)
	}
}

// P5.2 and P5.3
func TestTextOfValidReports(t *testing.T) {
	for _, r := range validReports() {
		checkText(t, r, r.Time, textOf(r))
	}
}

// P5.2
func TestFormatOfInvalidReports(t *testing.T) {
	for want, l := range invalidReports() {
		for _, r := range l {
			if got, e := Format(r); got != "" || e != want {
				t.Errorf("Format(%v) = %q, %d, not the error %d", r, got, e, want)
			}
		}
	}
}

// normals holds normal places: inside of faces, on edges and at vertices.
var normals = []api.Place{
	spot(0, 0, 0, 840), spot(0, 840, 0, 0), spot(5, 0, 840, 0), spot(15, 840, 0, 0),
	spot(5, 420, 420, 0), spot(0, 1, 0, 839), spot(10, 540, 300, 0),
	spot(7, 280, 280, 280), spot(12, 310, 215, 315), spot(19, 1, 1, 838), spot(3, 838, 1, 1),
}

// anyReport returns a valid report about a minute.
func anyReport(random *rand.Rand, minute int) api.Report {
	r := api.Report{Kind: 1 + random.Intn(3), Time: minute}
	for range 5 {
		r.Name += string(nameBytes[random.Intn(len(nameBytes))])
	}
	if r.Kind != api.Land {
		r.Place = normals[random.Intn(len(normals))]
	}
	ranges := [][2]int{{8000, 11000}, {1800, 3300}, {1800, 3300}, {-1000, 1000}, {-1000, 1000}, {900, 1700}, {2000, 3200}, {2400, 3400}, {2000, 3000}, {4400, 6200}, {2000, 2900}}
	for i, own := range ranges {
		if random.Intn(2) == 0 {
			r.Readings = append(r.Readings, api.Reading{Element: i + 1, Value: own[0] + random.Intn(own[1]-own[0]+1)})
		}
	}
	return r
}

// The consequence: a report is read from its text near every minute that is less than 14 days away from it.
func TestTextIsReadWithin14Days(t *testing.T) {
	random := rand.New(rand.NewSource(1))
	for range 20000 {
		r := anyReport(random, random.Intn(api.MaxMinute+1))
		near := r.Time - 20159 + random.Intn(2*20159+1)
		near = min(max(near, 0), api.MaxMinute)
		if !Readable(r, near) {
			t.Fatalf("Readable(%v, %d) is false", r, near)
		}
		checkText(t, r, near, textOf(r))
	}
}

// P5.3: what is read near any minute is readable near it, and has the text.
func TestParseGivesReadableReports(t *testing.T) {
	random := rand.New(rand.NewSource(2))
	for range 3000 {
		r := anyReport(random, random.Intn(api.MaxMinute+1))
		near := random.Intn(api.MaxMinute + 1)
		got, e := Parse(textOf(r), near)
		if e != api.OK || !Readable(got, near) || textOf(got) != textOf(r) {
			t.Fatalf("Parse(%q, %d) = %v, %d", textOf(r), near, got, e)
		}
		date := time.Date(2000, 1, 1, 0, r.Time, 0, 0, time.UTC)
		if want := nearest(dated(date.Day(), date.Hour(), date.Minute()), near); got.Time != want {
			t.Fatalf("Parse(%q, %d) is of the minute %d, not %d", textOf(r), near, got.Time, want)
		}
	}
}

// P5.3
func TestParseOutOfRange(t *testing.T) {
	for _, s := range []string{"SHIP DELTA 161720 05420420 P10132 E-0057", "LAND 01234 310000", "LAND 01234 320000", "", "x"} {
		for _, near := range []int{-1, -20000, api.MaxMinute + 1, 1 << 32, least, most} {
			checkNoReport(t, s, near, api.ErrRange)
		}
	}
}

// P5.3
func TestParseOfOtherTexts(t *testing.T) {
	near := at(2026, 11, 16, 17, 20)
	for _, s := range []string{
		"", " ", "   ", "LAND", "LAND ", "LAND 01234", "LAND 01234 ", "161720", "01234 161720", "LAND 161720", "LAND 161720 T2800",
		// Without a place, with one for a land station, or with two.
		"SHIP DELTA 161720", "SHIP DELTA 161720 ", "SHIP DELTA 161720 P10132", "BUOY DELTA 161720 T2800", "LAND 01234 161720 05420420", "LAND 01234 161720 00000000 T2800", "SHIP DELTA 161720 05420420 05420420",
		// Words that name no kind.
		"land 01234 161720", "Land 01234 161720", "LAN 01234 161720", "LANDS 01234 161720", "SHIPS DELTA 161720 05420420", "SEA DELTA 161720 05420420", "1 01234 161720", "\u041bAND 01234 161720",
		// Names.
		"LAND 0123 161720", "LAND 012345 161720", "LAND delta 161720", "LAND DELTa 161720", "LAND DE-TA 161720", "LAND DELÄ 161720", "LAND 012\t4 161720", "LAND  161720",
		// Times.
		"LAND 01234 16172", "LAND 01234 1617200", "LAND 01234 001720", "LAND 01234 321720", "LAND 01234 991720", "LAND 01234 162400", "LAND 01234 169900", "LAND 01234 161760", "LAND 01234 161799", "LAND 01234 -61720", "LAND 01234 +61720", "LAND 01234 16-720", "LAND 01234 1617+1", "LAND 01234 16172x", "LAND 01234 x61720", "LAND 01234 16:720", "LAND 01234 1/:720", "LAND 01234 0:1720", "LAND 01234 16172:", "LAND 01234 1617/:", "LAND 01234 1_1720", "LAND 01234 1617\u0662", "LAND 01234 16 17 20", "LAND 01234 2026-11-16 17:20",
		// Places that do not exist or are not normal.
		"SHIP DELTA 161720 5420420", "SHIP DELTA 161720 054204200", "SHIP DELTA 161720 20420420", "SHIP DELTA 161720 05420421", "SHIP DELTA 161720 05-20420", "SHIP DELTA 161720 0542042x", "SHIP DELTA 161720 14000420", "SHIP DELTA 161720 01000840", "SHIP DELTA 161720 01840000", "BUOY DELTA 161720 19840000", "BUOY DELTA 161720 15000300",
		// Readings that are not valid, or not in order.
		"LAND 01234 161720 T280", "LAND 01234 161720 T02800", "LAND 01234 161720 X2800", "LAND 01234 161720 t2800", "LAND 01234 161720 P11001", "LAND 01234 161720 E-0000", "LAND 01234 161720 T1799", "LAND 01234 161720 T2800 P10132", "LAND 01234 161720 T2800 T2800", "LAND 01234 161720 T2800 T2810", "LAND 01234 161720 P10132 D2800 T2800", "SHIP DELTA 161720 05420420 E-0057 P10132",
		// Spaces and other bytes around the words and between them.
		" LAND 01234 161720", "LAND 01234 161720 ", "LAND  01234 161720", "LAND 01234  161720", "LAND 01234 161720  T2800", "LAND 01234 161720 T2800 ", "LAND 01234 161720 P10132  T2800", "LAND\t01234 161720", "LAND 01234\t161720", "LAND 01234 161720\n", "LAND 01234 161720 T2800\n", "LAND 01234 161720 T2800\r", "\nLAND 01234 161720", "LAND 01234 161720\x00", "LAND\u00a001234 161720", "LAND 01234 161720 T2800\nLAND 01234 161720 T2800", "LAND 01234 161720=", "LAND01234161720", "LAND-01234-161720",
		"SHIP DELTA 161720  05420420", "SHIP DELTA 161720 05420420 ", "SHIP  161720 05420420",
		// The words of other orders.
		"01234 LAND 161720", "LAND 161720 01234", "SHIP DELTA 05420420 161720", "SHIP DELTA 161720 P10132 05420420",
	} {
		checkNoReport(t, s, near, api.ErrSyntax)
	}
}

// P5.3: a text in which a byte is replaced, left out or doubled is either no text or that of another report.
func TestParseWithOneByteChanged(t *testing.T) {
	near := at(2026, 11, 16, 17, 20)
	for _, text := range []string{"SHIP DELTA 161720 05420420 P10132 E-0057", "LAND 01234 161720 D2800", "BUOY B0001 010304 19001020"} {
		for i := range len(text) {
			changed := []string{text[:i] + text[i+1:], text[:i] + text[i:i+1] + text[i:]}
			for b := range 256 {
				changed = append(changed, text[:i]+string([]byte{byte(b)})+text[i+1:])
			}
			for _, s := range changed {
				r, e := Parse(s, near)
				if e != api.OK {
					checkNoReport(t, s, near, api.ErrSyntax)
				} else if !Readable(r, near) || textOf(r) != s {
					t.Errorf("Parse(%q, %d) = %v, and this is %q", s, near, r, textOf(r))
				}
			}
		}
	}
}

// P5.3: all numbers of six digits whose parts are near the limits.
func TestParseOfAllTimes(t *testing.T) {
	near := at(2026, 10, 16, 17, 20)
	for day := range 100 {
		for hour := range 100 {
			for _, minute := range []int{0, 1, 9, 10, 59, 60, 99} {
				s := fmt.Sprintf("LAND 01234 %02d%02d%02d", day, hour, minute)
				if day < 1 || day > 31 || hour > 23 || minute > 59 {
					checkNoReport(t, s, near, api.ErrSyntax)
				} else if r, e := Parse(s, near); e != api.OK || textOf(r) != s {
					t.Errorf("Parse(%q, %d) = %v, %d", s, near, r, e)
				}
			}
		}
	}
}

// P5.3: as many readings as there are elements, and more words.
func TestParseOfManyWords(t *testing.T) {
	near := at(2026, 11, 16, 17, 20)
	readings := " P10132 T2815 D2750 E-0057 N0012 A1500 B2780 F3000 G2700 J5600 K2500"
	full := []int{1, 10132, 2, 2815, 3, 2750, 4, -57, 5, 12, 6, 1500, 7, 2780, 8, 3000, 9, 2700, 10, 5600, 11, 2500}
	for _, head := range []string{"LAND 01234 161720", "SHIP DELTA 161720 05420420", "BUOY B0001 161720 19001020"} {
		r, e := Parse(head+readings, near)
		if e != api.OK || !slices.Equal(r.Readings, list(full...)) {
			t.Errorf("Parse(%q, %d) = %v, %d", head+readings, near, r, e)
		}
		for _, more := range []string{" ", " K2500", " K2501", " L2500", " x", readings, readings + readings, strings.Repeat(" K2500", 100000), strings.Repeat(" ", 100000), strings.Repeat("0", 100000)} {
			checkNoReport(t, head+readings+more, near, api.ErrSyntax)
		}
	}
}

// Rule 2: results are new memory.
func TestParsedReadingsAreNew(t *testing.T) {
	const text = "LAND 01234 161720 P10132 T2815"
	near := at(2026, 11, 16, 17, 20)
	first, _ := Parse(text, near)
	first.Readings[0].Value = 0
	if second, _ := Parse(text, near); !slices.Equal(second.Readings, list(1, 10132, 2, 2815)) {
		t.Errorf("Parse(%q, %d) = %v after a change of an earlier result", text, near, second)
	}
}
