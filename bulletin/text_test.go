package bulletin

import (
	"fmt"
	"math/rand"
	"regexp"
	"slices"
	"strings"
	"testing"
	"time"

	"synoptic/api"
	"synoptic/clock"
	"synoptic/group"
)

// textOf returns the text of a valid bulletin, written anew by the chapter.
func textOf(b api.Bulletin) string {
	text := "SYNOP " + b.Centre + " " + time.Date(2000, 1, 1, 0, b.Time, 0, 0, time.UTC).Format("021504")
	if b.Correction != 0 {
		text += fmt.Sprintf(" CC%c", 'A'-1+b.Correction)
	}
	if b.Delayed != 0 {
		text += fmt.Sprintf(" RR%c", 'A'-1+b.Delayed)
	}
	for _, r := range b.Reports {
		line, _ := group.Format(r)
		text += "\n" + line + "="
	}
	return text + "\n"
}

// checkText compares the text of a valid bulletin with what is expected, and reads it near a minute.
func checkText(t *testing.T, b api.Bulletin, near int, want string) {
	t.Helper()
	if got, e := Format(b); got != want || e != api.OK {
		t.Errorf("Format(%v) = %q, %d, not %q", b, got, e, want)
	}
	checkParse(t, want, near, b)
}

// checkParse compares the bulletin and the damaged lines of a text with what is expected.
func checkParse(t *testing.T, s string, near int, want api.Bulletin, damaged ...int) {
	t.Helper()
	got, lines, e := Parse(s, near)
	if !Same(got, want) || !slices.Equal(lines, damaged) || e != api.OK {
		t.Errorf("Parse(%q, %d) = %v, %v, %d, not %v, %v", s, near, got, lines, e, want, damaged)
	}
}

// checkNoBulletin expects an error of Parse, and nothing with it.
func checkNoBulletin(t *testing.T, s string, near int, want api.Errno) {
	t.Helper()
	if got, lines, e := Parse(s, near); !Same(got, api.Bulletin{}) || len(lines) != 0 || e != want {
		t.Errorf("Parse(%q, %d) = %v, %v, %d, not the error %d", s, near, got, lines, e, want)
	}
}

// P6.1 and P6.4: the first example of the chapter and other texts written by hand.
func TestText(t *testing.T) {
	day := at(2026, 11, 16, 17, 20)
	example := api.Bulletin{Centre: "EDZW", Time: day, Correction: 2, Reports: []api.Report{report(api.Land, "01234", day, api.Place{}, 2, 2800)}}
	checkText(t, example, day, "SYNOP EDZW 161720 CCB\nLAND 01234 161720 T2800=\n")
	for _, near := range []int{day - 20159, day - 1, day + 1, day + 20159} {
		checkText(t, example, near, "SYNOP EDZW 161720 CCB\nLAND 01234 161720 T2800=\n")
	}
	checkText(t, bulletin(), noon, "SYNOP EDZW 161200\n")
	checkText(t, bulletin(land(), ship(), buoy()), noon, "SYNOP EDZW 161200\nLAND 01234 161205 P10132 T2800=\nSHIP DELTA 161140 05420420 P10132 E-0057=\nBUOY B0001 151200 19001020=\n")
	checkText(t, api.Bulletin{Centre: "AAAA"}, 0, "SYNOP AAAA 010000\n")
	checkText(t, api.Bulletin{Centre: "ZZZZ", Time: api.MaxMinute, Correction: 26}, api.MaxMinute, "SYNOP ZZZZ 312359 CCZ\n")
	checkText(t, api.Bulletin{Centre: "SYNO", Time: 84960, Correction: 1}, 84960, "SYNOP SYNO 290000 CCA\n")
	checkText(t, api.Bulletin{Centre: "CCRR", Time: 84961, Delayed: 1, Reports: []api.Report{}}, 84961, "SYNOP CCRR 290001 RRA\n")
	checkText(t, api.Bulletin{Centre: "RRCC", Time: at(2026, 1, 31, 0, 0), Delayed: 26}, at(2026, 3, 1, 12, 0), "SYNOP RRCC 310000 RRZ\n")
}

// P6.1 and P6.4
func TestTextOfValidBulletins(t *testing.T) {
	for _, b := range validBulletins() {
		checkText(t, b, b.Time, textOf(b))
	}
	for n := 1; n <= 26; n++ {
		for _, b := range []api.Bulletin{{Centre: "EDZW", Time: noon, Correction: n}, {Centre: "EDZW", Time: noon, Delayed: n}} {
			checkText(t, b, noon, textOf(b))
		}
	}
}

// P6.1
func TestFormatOfInvalidBulletins(t *testing.T) {
	for want, l := range invalidBulletins() {
		for _, b := range l {
			if got, e := Format(b); got != "" || e != want {
				t.Errorf("Format(%v) = %q, %d, not the error %d", b, got, e, want)
			}
		}
	}
}

// ofSize returns a bulletin of 60 reports whose text has so many bytes (possible from about 1200 to 4400).
func ofSize(size int) api.Bulletin {
	b := bulletin()
	for range 60 {
		b.Reports = append(b.Reports, report(api.Land, "01234", noon, api.Place{}))
	}
	missing := size - len(textOf(b))
	// The text of a pressure has 7 bytes with its space, that of the others here 6.
	for i := 0; missing%6 != 0; i++ {
		b.Reports[i].Readings = []api.Reading{{Element: 1, Value: 10132}}
		missing -= 7
	}
	for i := 0; missing > 0; i++ {
		r := &b.Reports[i%60]
		element := []int{2, 3, 6, 7, 8, 9, 10, 11}[i/60]
		r.Readings = append(r.Readings, api.Reading{Element: element, Value: []int{6: 1500, 2: 2800, 3: 2800, 7: 2800, 8: 2800, 9: 2800, 10: 5000, 11: 2800}[element]})
		missing -= 6
	}
	return b
}

// P6.1: the greatest text.
func TestFormatOfLongTexts(t *testing.T) {
	for size := 3980; size <= 4020; size++ {
		b := ofSize(size)
		if e := Validate(b); e != api.OK || len(textOf(b)) != size {
			t.Fatalf("the bulletin of %d bytes has %d, and Validate returns %d", size, len(textOf(b)), e)
		}
		if size <= 4000 {
			checkText(t, b, noon, textOf(b))
			continue
		}
		if got, e := Format(b); got != "" || e != api.ErrLimit {
			t.Errorf("Format of %d bytes = %q, %d", size, got, e)
		}
		checkNoBulletin(t, textOf(b), noon, api.ErrLimit)
	}
}

const (
	landLine = "LAND 01234 161205 P10132 T2800=\n"
	shipLine = "SHIP DELTA 161140 05420420 P10132 E-0057=\n"
	buoyLine = "BUOY B0001 151200 19001020=\n"
	heading0 = "SYNOP EDZW 161200\n"
)

// P6.2: the second example of the chapter.
func TestParseWithoutEqualsSign(t *testing.T) {
	day := at(2026, 11, 16, 17, 20)
	checkParse(t, "SYNOP EDZW 161720 CCB\nLAND 01234 161720 T2800\n", day, api.Bulletin{Centre: "EDZW", Time: day, Correction: 2}, 1)
}

// P6.2: lines that are damaged, alone and among others.
func TestParseOfDamagedLines(t *testing.T) {
	for _, line := range []string{
		"\n", " \n", "=\n", "==\n", "\r\n", "\x00\n", "x\n", "x=\n", "LAND\n", "LAND=\n",
		"LAND 01234 161205 P10132 T2800\n", "LAND 01234 161205 P10132 T2800==\n", "LAND 01234 161205 P10132 T2800 =\n", "LAND 01234 161205 P10132 T2800= \n", "LAND 01234 161205 P10132 T2800=\r\n", "LAND 01234 161205 P10132 T2800\r=\n", "LAND 01234 161205 P10132 T2800=x\n", "LAND 01234 161205 P10132 T2800;\n", "=LAND 01234 161205 P10132 T2800\n", "=LAND 01234 161205 P10132 T2800=\n", " LAND 01234 161205 P10132 T2800=\n", "LAND=01234 161205=\n",
		"LAND 01234 161205= LAND 01234 161205=\n", "LAND 01234 161205=LAND 01234 161205=\n",
		"land 01234 161205=\n", "LAND 0123 161205=\n", "LAND 01234 321205=\n", "LAND 01234 162405=\n", "LAND 01234 161205 05420420=\n", "LAND 01234 161205 T2800 P10132=\n", "LAND 01234 161205 T2800 T2800=\n", "LAND 01234 161205 T1799=\n", "SHIP DELTA 161140=\n", "SHIP DELTA 161140 14000420=\n", "SHIP DELTA 161140 05420421=\n", "BUOY b0001 151200 19001020=\n",
		"SYNOP EDZW 161200\n", "SYNOP EDZW 161200=\n", "SYNOP EDZW 161200 CCA=\n",
		strings.Repeat("x", 3000) + "\n", strings.Repeat("=", 3000) + "\n", strings.Repeat(" ", 3000) + "=\n",
	} {
		checkParse(t, heading0+line, noon, bulletin(), 1)
		checkParse(t, heading0+line+landLine, noon, bulletin(land()), 1)
		checkParse(t, heading0+landLine+line, noon, bulletin(land()), 2)
		checkParse(t, heading0+landLine+shipLine+line+buoyLine, noon, bulletin(land(), ship(), buoy()), 3)
		if len(line) < 1000 {
			checkParse(t, heading0+line+landLine+line+line+shipLine+line, noon, bulletin(land(), ship()), 1, 3, 4, 6)
		}
	}
}

// P6.2: a last line without a line feed is damaged, unless it is empty.
func TestParseOfUnfinishedLines(t *testing.T) {
	checkParse(t, heading0, noon, bulletin())
	checkParse(t, heading0+landLine, noon, bulletin(land()))
	for _, line := range []string{"x", "=", " ", "\r", "\x00", strings.TrimSuffix(landLine, "\n"), strings.TrimSuffix(landLine, "=\n")} {
		checkParse(t, heading0+line, noon, bulletin(), 1)
		checkParse(t, heading0+shipLine+landLine+line, noon, bulletin(ship(), land()), 3)
		checkParse(t, heading0+"\n"+line, noon, bulletin(), 1, 2)
	}
	for cut := range len(landLine) {
		if cut == 0 {
			checkParse(t, heading0+buoyLine+landLine[:cut], noon, bulletin(buoy()))
		} else {
			checkParse(t, heading0+buoyLine+landLine[:cut], noon, bulletin(buoy()), 2)
		}
	}
}

// P6.2: the reports are near the time of the bulletin, which is near the minute.
func TestParseOfTimes(t *testing.T) {
	const text = "SYNOP EDZW 161200\nLAND 01234 020000=\nLAND 01234 010000=\nLAND 01234 301200=\nLAND 01234 310000=\nLAND 01234 162359=\n"
	november := bulletin()
	for _, minute := range []int{at(2026, 11, 2, 0, 0), at(2026, 12, 1, 0, 0), at(2026, 11, 30, 12, 0), at(2026, 10, 31, 0, 0), at(2026, 11, 16, 23, 59)} {
		november.Reports = append(november.Reports, report(api.Land, "01234", minute, api.Place{}))
	}
	for _, near := range []int{noon, noon - 20159, noon + 20159, at(2026, 11, 1, 0, 1), at(2026, 12, 1, 11, 59)} {
		checkParse(t, text, near, november)
	}
	february := api.Bulletin{Centre: "EDZW", Time: at(2026, 2, 16, 12, 0)}
	for _, minute := range []int{at(2026, 3, 2, 0, 0), at(2026, 3, 1, 0, 0), at(2026, 1, 30, 12, 0), at(2026, 1, 31, 0, 0), at(2026, 2, 16, 23, 59)} {
		february.Reports = append(february.Reports, report(api.Land, "01234", minute, api.Place{}))
	}
	checkParse(t, text, at(2026, 2, 20, 0, 0), february)
}

// P6.2: the day 31 is possible near each minute, also within a month of fewer days.
func TestParseOfTheDay31(t *testing.T) {
	checkParse(t, "SYNOP EDZW 310000\n", at(2026, 2, 20, 0, 0), api.Bulletin{Centre: "EDZW", Time: at(2026, 1, 31, 0, 0)})
	checkParse(t, "SYNOP EDZW 310000 RRC\n", at(2026, 4, 30, 0, 0), api.Bulletin{Centre: "EDZW", Time: at(2026, 3, 31, 0, 0), Delayed: 3})
	checkParse(t, "SYNOP EDZW 312359\n", api.MaxMinute, api.Bulletin{Centre: "EDZW", Time: api.MaxMinute})
	checkParse(t, "SYNOP EDZW 312359\n", 0, api.Bulletin{Centre: "EDZW", Time: at(2000, 1, 31, 23, 59)})
}

// otherHeadings returns texts that do not begin with a heading.
func otherHeadings() []string {
	l := []string{
		"", "SYNOP", "SYNOP EDZW 161200", "SYNOP EDZW 161200 CCA", "SYNOP EDZW 161200\r", "x", strings.Repeat("x", 4000), strings.Repeat(" ", 4000),
	}
	for _, first := range []string{
		"", " ", "SYNOP", "SYNOP EDZW", "SYNOP EDZW ", "EDZW 161200", "SYNOP 161200", "161200",
		"synop EDZW 161200", "SYNO EDZW 161200", "SYNOPS EDZW 161200", "SYNOB EDZW 161200", "SHIP EDZW 161200", "LAND 01234 161200", " SYNOP EDZW 161200",
		"SYNOP EDZ 161200", "SYNOP EDZWX 161200", "SYNOP edzw 161200", "SYNOP ED1W 161200", "SYNOP EDÄ 161200", "SYNOP  161200", "SYNOP  EDZW 161200", "SYNOP 161200 EDZW",
		"SYNOP EDZW 16120", "SYNOP EDZW 1612000", "SYNOP EDZW 001200", "SYNOP EDZW 321200", "SYNOP EDZW 162400", "SYNOP EDZW 161260", "SYNOP EDZW -61200", "SYNOP EDZW 16120x", "SYNOP EDZW  161200", "SYNOP EDZW 16 12 00",
		"SYNOP EDZW 161200 ", "SYNOP EDZW 161200  CCA", "SYNOP EDZW 161200 CC", "SYNOP EDZW 161200 RR", "SYNOP EDZW 161200 CCAA", "SYNOP EDZW 161200 RRAB", "SYNOP EDZW 161200 CCa", "SYNOP EDZW 161200 CC1", "SYNOP EDZW 161200 RR@", "SYNOP EDZW 161200 RR[", "SYNOP EDZW 161200 CC\xc1", "SYNOP EDZW 161200 CCÄ", "SYNOP EDZW 161200 CR", "SYNOP EDZW 161200 CRA", "SYNOP EDZW 161200 RCA", "SYNOP EDZW 161200 ccA", "SYNOP EDZW 161200 A", "SYNOP EDZW 161200 CCB ", "SYNOP EDZW 161200 CCB CCB", "SYNOP EDZW 161200 CCB RRA", "SYNOP EDZW 161200 RRA CCB", "SYNOP EDZW 161200 CCRRA", "SYNOP EDZW 161200 COR", "SYNOP EDZW 161200 CC A",
		"SYNOP EDZW 161200=", "SYNOP EDZW 161200 CCB=", "SYNOP EDZW 161200\r", "SYNOP EDZW 161200 CCB\r", "SYNOP EDZW 161200\t", "SYNOP\tEDZW 161200", "SYNOP EDZW\u00a0161200", "SYNOP EDZW 161200\x00", "\x00SYNOP EDZW 161200", "\ufeffSYNOP EDZW 161200",
		"SYNOP EDZW 161200" + strings.Repeat(" ", 3000), strings.Repeat("SYNOP ", 600),
	} {
		l = append(l, first+"\n", first+"\n"+landLine)
	}
	return append(l, "\n"+heading0, "\r\n"+heading0, landLine+heading0)
}

// P6.2
func TestParseOfOtherHeadings(t *testing.T) {
	for _, s := range otherHeadings() {
		checkNoBulletin(t, s, noon, api.ErrSyntax)
	}
}

// P6.2: all numbers of six digits whose minutes are near the limits.
func TestParseOfAllTimes(t *testing.T) {
	near := at(2026, 10, 16, 17, 20)
	for day := range 100 {
		for hour := range 100 {
			for _, minute := range []int{0, 1, 9, 10, 59, 60, 99} {
				s := fmt.Sprintf("SYNOP EDZW %02d%02d%02d\n", day, hour, minute)
				want, e := clock.Resolve(day, hour, minute, near)
				if e != api.OK {
					checkNoBulletin(t, s, near, api.ErrSyntax)
				} else {
					checkParse(t, s, near, api.Bulletin{Centre: "EDZW", Time: want})
				}
			}
		}
	}
}

// P6.2: the number of lines behind the heading.
func TestParseOfManyLines(t *testing.T) {
	short := report(api.Land, "01234", noon, api.Place{})
	const line = "LAND 01234 161200=\n"
	for n := 55; n <= 65; n++ {
		all := make([]int, n)
		for i := range all {
			all[i] = i + 1
		}
		texts := map[string]func(){
			strings.Repeat(line, n): func() {
				checkParse(t, heading0+strings.Repeat(line, n), noon, bulletin(slices.Repeat([]api.Report{short}, n)...))
			},
			strings.Repeat("\n", n):          func() { checkParse(t, heading0+strings.Repeat("\n", n), noon, bulletin(), all...) },
			strings.Repeat("\n", n-1) + "x":  func() { checkParse(t, heading0+strings.Repeat("\n", n-1)+"x", noon, bulletin(), all...) },
			strings.Repeat("\n", n-1) + line: func() { checkParse(t, heading0+strings.Repeat("\n", n-1)+line, noon, bulletin(short), all[:n-1]...) },
			strings.Repeat(line, n-1) + "\n": func() {
				checkParse(t, heading0+strings.Repeat(line, n-1)+"\n", noon, bulletin(slices.Repeat([]api.Report{short}, n-1)...), n)
			},
		}
		for lines, check := range texts {
			if n <= 60 {
				check()
			} else {
				checkNoBulletin(t, heading0+lines, noon, api.ErrLimit)
			}
		}
	}
}

// P6.2: the number of bytes.
func TestParseOfManyBytes(t *testing.T) {
	for _, size := range []int{3999, 4000, 4001, 4002, 100000} {
		for _, start := range []string{heading0, heading0 + landLine, "SYNOP EDZW 161200 CCB\n" + landLine + shipLine} {
			for _, end := range []string{"", "\n", "=\n"} {
				s := start + strings.Repeat("x", size-len(start)-len(end)) + end
				if size > 4000 {
					checkNoBulletin(t, s, noon, api.ErrLimit)
					continue
				}
				want, damaged, _ := Parse(start, noon)
				if len(damaged) > 0 {
					t.Fatalf("%q has damaged lines", start)
				}
				checkParse(t, s, noon, want, len(want.Reports)+1)
			}
		}
	}
}

// P6.2: of all combinations of faults, the first one named decides.
func TestParseReturnsTheFirstError(t *testing.T) {
	for set := range 16 {
		near, head, size, lines := noon, heading0, 100, 2
		want := api.OK
		if set&8 != 0 {
			want, lines = api.ErrLimit, 61
		}
		if set&4 != 0 {
			want, head = api.ErrSyntax, "SYNOP EDZW 321200\n"
		}
		if set&2 != 0 {
			want, size = api.ErrLimit, 4001
		}
		if set&1 != 0 {
			want, near = api.ErrRange, -1
		}
		s := head + strings.Repeat("\n", lines-1)
		s += strings.Repeat("x", size-len(s)-1) + "\n"
		if want == api.OK {
			checkParse(t, s, near, bulletin(), 1, 2)
		} else {
			checkNoBulletin(t, s, near, want)
		}
	}
	for _, s := range append(otherHeadings(), heading0, heading0+landLine, strings.Repeat("\n", 4001)) {
		for _, near := range []int{-1, api.MaxMinute + 1, 1 << 32, least, most} {
			checkNoBulletin(t, s, near, api.ErrRange)
		}
	}
	checkNoBulletin(t, strings.Repeat("\n", 4001), noon, api.ErrLimit)
	checkNoBulletin(t, strings.Repeat("\n", 4000), noon, api.ErrSyntax)
	checkNoBulletin(t, strings.Repeat(heading0, 62), noon, api.ErrLimit)
	checkNoBulletin(t, strings.Repeat("x\n", 62), noon, api.ErrSyntax)
}

// anyReport returns a valid report that is less than 14 days from a minute.
func anyReport(random *rand.Rand, near int) api.Report {
	r := api.Report{Kind: 1 + random.Intn(3), Name: fmt.Sprintf("%05d", random.Intn(100000))}
	r.Time = min(max(near-20159+random.Intn(2*20159+1), 0), api.MaxMinute)
	if r.Kind != api.Land {
		r.Place = []api.Place{{C: 840}, {Face: 5, A: 420, B: 420}, {Face: 7, A: 280, B: 280, C: 280}, {Face: 19, A: 1, B: 20, C: 819}}[random.Intn(4)]
	}
	for i, value := range []int{10132, 2800, 2750, -57, 12, 1500, 2780, 3000} {
		if random.Intn(3) == 0 {
			r.Readings = append(r.Readings, api.Reading{Element: i + 1, Value: value})
		}
	}
	return r
}

// anyBulletin returns a valid bulletin whose text is not too long.
func anyBulletin(random *rand.Rand) api.Bulletin {
	b := api.Bulletin{Time: random.Intn(api.MaxMinute + 1)}
	for range 4 {
		b.Centre += string(rune('A' + random.Intn(26)))
	}
	switch random.Intn(3) {
	case 0:
		b.Correction = 1 + random.Intn(26)
	case 1:
		b.Delayed = 1 + random.Intn(26)
	}
	for range random.Intn(40) {
		b.Reports = append(b.Reports, anyReport(random, b.Time))
	}
	return b
}

// P6.4: a bulletin is read from its text near every minute near which its time is the one that the heading names.
func TestTextIsReadNearTheTime(t *testing.T) {
	random := rand.New(rand.NewSource(1))
	for range 3000 {
		b := anyBulletin(random)
		near := min(max(b.Time-45000+random.Intn(90001), 0), api.MaxMinute)
		c, _ := clock.Date(b.Time)
		named, _ := clock.Resolve(c.Day, c.Hour, c.Minute, near)
		if named == b.Time {
			checkText(t, b, near, textOf(b))
			continue
		}
		got, _, e := Parse(textOf(b), near)
		if got.Time != named || e != api.OK {
			t.Fatalf("Parse(%q, %d) is of the minute %d, not %d", textOf(b), near, got.Time, named)
		}
	}
}

// P6.4: one byte of a line is replaced by another one; the other reports stay as they are.
func TestParseWithOneByteChanged(t *testing.T) {
	reports := []api.Report{land(), ship(), buoy(), land()}
	text := textOf(bulletin(reports...))
	line := 0
	for i := range len(text) {
		if text[i] == '\n' {
			line++
			continue
		}
		if line == 0 {
			continue
		}
		for c := range 256 {
			if c == '\n' || byte(c) == text[i] {
				continue
			}
			s := text[:i] + string([]byte{byte(c)}) + text[i+1:]
			got, damaged, e := Parse(s, noon)
			if e != api.OK {
				t.Fatalf("Parse(%q, %d): error %d", s, noon, e)
			}
			want := bulletin(slices.Delete(slices.Clone(reports), line-1, line)...)
			if len(damaged) == 0 {
				// The byte has made it the text of another report.
				other := got.Reports[line-1]
				if group.Same(other, reports[line-1]) {
					t.Errorf("Parse(%q, %d) does not notice the change", s, noon)
				}
				want.Reports = slices.Insert(want.Reports, line-1, other)
			} else if !slices.Equal(damaged, []int{line}) {
				t.Errorf("Parse(%q, %d) finds the damaged lines %v, not %d", s, noon, damaged, line)
			}
			if !Same(got, want) {
				t.Errorf("Parse(%q, %d) = %v, not %v", s, noon, got, want)
			}
		}
	}
}

var headingForm = regexp.MustCompile(`^SYNOP ([A-Z]{4}) (\d\d)(\d\d)(\d\d)(?: (CC|RR)([A-Z]))?\z`)

// parseAnew returns what Parse has to return, by other means.
func parseAnew(s string, near int) (api.Bulletin, []int, api.Errno) {
	parts := strings.Split(s, "\n")
	words := headingForm.FindStringSubmatch(parts[0])
	if len(s) > 4000 {
		return api.Bulletin{}, nil, api.ErrLimit
	}
	if len(parts) == 1 || words == nil {
		return api.Bulletin{}, nil, api.ErrSyntax
	}
	var numbers [3]int
	fmt.Sscanf(words[2]+" "+words[3]+" "+words[4], "%d %d %d", &numbers[0], &numbers[1], &numbers[2])
	time, e := clock.Resolve(numbers[0], numbers[1], numbers[2], near)
	if e != api.OK {
		return api.Bulletin{}, nil, api.ErrSyntax
	}
	b := api.Bulletin{Centre: words[1], Time: time}
	switch words[5] {
	case "CC":
		b.Correction = int(words[6][0]) - 'A' + 1
	case "RR":
		b.Delayed = int(words[6][0]) - 'A' + 1
	}
	lines := parts[1:]
	unfinished := lines[len(lines)-1] != ""
	if !unfinished {
		lines = lines[:len(lines)-1]
	}
	if len(lines) > 60 {
		return api.Bulletin{}, nil, api.ErrLimit
	}
	var damaged []int
	for i, line := range lines {
		r, e := group.Parse(strings.TrimSuffix(line, "="), time)
		if e == api.OK && strings.HasSuffix(line, "=") && !(unfinished && i == len(lines)-1) {
			b.Reports = append(b.Reports, r)
		} else {
			damaged = append(damaged, i+1)
		}
	}
	return b, damaged, api.OK
}

// change returns a text after some random changes.
func change(random *rand.Rand, s string) string {
	for range 1 + random.Intn(3) {
		i := random.Intn(len(s) + 1)
		k := min(len(s), i+random.Intn(30))
		switch random.Intn(5) {
		case 0:
			s = s[:i] + s[k:]
		case 1:
			s = s[:k] + s[i:]
		case 2:
			s = s[:i] + []string{"\n", "=", "=\n", " ", "A", "0", "\r"}[random.Intn(7)] + s[i:]
		case 3:
			s = s[:i] + string(rune(random.Intn(128))) + s[min(len(s), i+1):]
		case 4:
			s = strings.Replace(s, "\n", "\n\n", random.Intn(30))
		}
	}
	return s
}

// P6.2 and the consequence: what Parse returns of a changed text is as the chapter says, and valid.
func TestParseOfChangedTexts(t *testing.T) {
	random := rand.New(rand.NewSource(2))
	seen := map[api.Errno]int{}
	for range 10000 {
		b := anyBulletin(random)
		s := change(random, textOf(b))
		near := min(max(b.Time-20159+random.Intn(2*20159+1), 0), api.MaxMinute)
		want, damaged, e := parseAnew(s, near)
		seen[e]++
		if e != api.OK {
			checkNoBulletin(t, s, near, e)
			continue
		}
		checkParse(t, s, near, want, damaged...)
		if got, _, _ := Parse(s, near); Validate(got) != api.OK {
			t.Errorf("Parse(%q, %d) = %v is not valid", s, near, got)
		}
	}
	if min(seen[api.OK], seen[api.ErrSyntax], seen[api.ErrLimit]) < 100 {
		t.Errorf("the errors are too rare: %v", seen)
	}
}

// Rule 2: results are new memory.
func TestParsedReportsAreNew(t *testing.T) {
	s := heading0 + "x\n" + landLine + shipLine
	first, damaged, _ := Parse(s, noon)
	first.Reports[0].Readings[0].Value = 0
	first.Reports[1] = api.Report{}
	damaged[0] = 7
	checkParse(t, s, noon, bulletin(land(), ship()), 1)
}
