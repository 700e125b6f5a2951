package bulletin

import (
	"fmt"
	"slices"
	"strings"
	"testing"
	"time"

	"synoptic/api"
)

const (
	least = -1 << 63
	most  = 1<<63 - 1
)

// at returns the minute of a date, counted by the calendar of Go's library.
func at(year, month, day, hour, minute int) int {
	start := time.Date(2000, 1, 1, 0, 0, 0, 0, time.UTC)
	return int(time.Date(year, time.Month(month), day, hour, minute, 0, 0, time.UTC).Sub(start) / time.Minute)
}

// noon is the time of most bulletins of the tests.
var noon = at(2026, 11, 16, 12, 0)

// report returns a report whose readings are given as elements and values in turn.
func report(kind int, name string, minute int, where api.Place, numbers ...int) api.Report {
	r := api.Report{Kind: kind, Name: name, Time: minute, Place: where}
	for i := 0; i < len(numbers); i += 2 {
		r.Readings = append(r.Readings, api.Reading{Element: numbers[i], Value: numbers[i+1]})
	}
	return r
}

func land() api.Report {
	return report(api.Land, "01234", noon+5, api.Place{}, 1, 10132, 2, 2800)
}

func ship() api.Report {
	return report(api.Ship, "DELTA", noon-20, api.Place{Face: 5, A: 420, B: 420}, 1, 10132, 4, -57)
}

func buoy() api.Report {
	return report(api.Buoy, "B0001", noon-24*60, api.Place{Face: 19, A: 1, B: 20, C: 819})
}

// bulletin returns a valid bulletin that the tests change.
func bulletin(reports ...api.Report) api.Bulletin {
	return api.Bulletin{Centre: "EDZW", Time: noon, Reports: reports}
}

// with returns a bulletin after a change, which may also concern its list of reports.
func with(b api.Bulletin, change func(b *api.Bulletin)) api.Bulletin {
	b.Reports = slices.Clone(b.Reports)
	change(&b)
	return b
}

func validBulletins() []api.Bulletin {
	first := api.Bulletin{Centre: "AAAA", Time: 0, Reports: []api.Report{report(api.Land, "AAAAA", 0, api.Place{})}}
	last := api.Bulletin{Centre: "ZZZZ", Time: api.MaxMinute, Correction: 26, Reports: []api.Report{report(api.Land, "ZZZZZ", api.MaxMinute, api.Place{}, 11, 2900)}}
	february := api.Bulletin{Centre: "KWBC", Time: 84960, Delayed: 26, Reports: []api.Report{
		report(api.Land, "00001", 84960, api.Place{}),
		report(api.Land, "00001", 84960-20159, api.Place{}),
		report(api.Land, "00001", 84960+20159, api.Place{}),
		// Farther away than 14 days, and yet readable: February has no such days, and March is farther away, or equally far and later.
		report(api.Land, "00001", at(2000, 1, 31, 0, 0), api.Place{}),
		report(api.Land, "00001", at(2000, 1, 30, 0, 0), api.Place{}),
	}}
	return []api.Bulletin{
		first, last, february,
		bulletin(),
		bulletin(land()),
		bulletin(land(), ship(), buoy()),
		bulletin(buoy(), land(), buoy(), buoy(), ship(), land()),
		bulletin(slices.Repeat([]api.Report{buoy()}, 60)...),
		with(bulletin(land(), ship()), func(b *api.Bulletin) { b.Correction = 1 }),
		with(bulletin(ship(), ship()), func(b *api.Bulletin) { b.Delayed = 1 }),
		with(bulletin(buoy()), func(b *api.Bulletin) { b.Correction = 13 }),
		with(bulletin(), func(b *api.Bulletin) { b.Delayed = 25 }),
	}
}

// reportFaults returns reports that no bulletin of noon can have, with the error of each.
func reportFaults() map[api.Errno][]api.Report {
	return map[api.Errno][]api.Report{
		api.ErrKind: {
			report(0, "01234", noon, api.Place{}),
			report(4, "", -1, api.Place{}),
			report(api.Land, "01234", noon, api.Place{}, 12, 0),
			report(api.Land, "01234", 0, api.Place{}, 0, 0),
		},
		api.ErrSyntax: {
			report(api.Land, "0123", noon, api.Place{}),
			report(api.Land, "01234=", noon, api.Place{}),
			report(api.Land, "0123\n", 0, api.Place{}),
		},
		api.ErrRange: {
			report(api.Land, "01234", -1, api.Place{}),
			report(api.Land, "01234", api.MaxMinute+1, api.Place{}),
			report(api.Land, "01234", most, api.Place{}),
			report(api.Land, "01234", noon, api.Place{C: 840}),
			report(api.Ship, "DELTA", noon, api.Place{}),
			report(api.Ship, "DELTA", noon, api.Place{Face: 14, B: 420, C: 420}),
			report(api.Land, "01234", 0, api.Place{}, 1, 0),
		},
		api.ErrOrder: {
			report(api.Land, "01234", noon, api.Place{}, 2, 2800, 1, 10132),
			report(api.Land, "01234", 0, api.Place{}, 2, 2800, 2, 2800),
		},
		api.ErrState: {
			report(api.Land, "01234", 0, api.Place{}),
			report(api.Land, "01234", api.MaxMinute, api.Place{}),
			// The same day, hour and minute as a nearer time.
			report(api.Land, "01234", at(2026, 10, 16, 12, 0), api.Place{}),
			report(api.Land, "01234", at(2026, 12, 16, 12, 0), api.Place{}),
			report(api.Land, "01234", at(2025, 11, 16, 12, 0), api.Place{}, 2, 2800),
			report(api.Land, "01234", at(2026, 11, 1, 0, 0), api.Place{}),
			report(api.Land, "01234", at(2026, 12, 2, 0, 0), api.Place{}),
			report(api.Ship, "DELTA", at(2027, 11, 16, 12, 0), api.Place{Face: 5, A: 420, B: 420}),
		},
	}
}

// invalidBulletins returns bulletins with the error of each.
func invalidBulletins() map[api.Errno][]api.Bulletin {
	l := map[api.Errno][]api.Bulletin{api.ErrSyntax: {{}}}
	add := func(e api.Errno, change func(b *api.Bulletin)) {
		l[e] = append(l[e], with(bulletin(), change), with(bulletin(land(), ship()), change))
	}
	for _, centre := range []string{"", "E", "EDZ", "EDZWX", "EDZWEDZW", "edzw", "EDZw", "eDZW", "ED W", " EDZ", "EDZ ", "EDZW ", " EDZW", "ED1W", "0123", "ED-W", "EDZ\n", "EDZ\x00", "ÄÖ", "ÄED", "EDÄ", "EDZÄ", "EDZ\u0410", "\xff\xff\xff\xff", "ED@W", "ED[W"} {
		add(api.ErrSyntax, func(b *api.Bulletin) { b.Centre = centre })
	}
	for _, minute := range []int{-1, api.MaxMinute + 1, 1 << 32, least, most} {
		add(api.ErrRange, func(b *api.Bulletin) { b.Time = minute })
	}
	for _, count := range []int{-1, 27, 1<<32 + 1, least, most} {
		add(api.ErrRange, func(b *api.Bulletin) { b.Correction = count })
		add(api.ErrRange, func(b *api.Bulletin) { b.Delayed = count })
		add(api.ErrRange, func(b *api.Bulletin) { b.Correction, b.Delayed = count, count })
	}
	for _, counts := range [][2]int{{1, 1}, {1, 26}, {26, 1}, {26, 26}, {2, 13}} {
		add(api.ErrState, func(b *api.Bulletin) { b.Correction, b.Delayed = counts[0], counts[1] })
	}
	for _, length := range []int{61, 62, 120, 100000} {
		add(api.ErrLimit, func(b *api.Bulletin) { b.Reports = slices.Repeat([]api.Report{land()}, length) })
		add(api.ErrLimit, func(b *api.Bulletin) { b.Reports = make([]api.Report, length) })
	}
	for e, faults := range reportFaults() {
		for _, r := range faults {
			add(e, func(b *api.Bulletin) { b.Reports = append(b.Reports, r) })
			add(e, func(b *api.Bulletin) { b.Reports = append([]api.Report{r}, b.Reports...) })
			add(e, func(b *api.Bulletin) { b.Reports = append(slices.Repeat([]api.Report{buoy()}, 59), r) })
		}
	}
	return l
}

// P6.1
func TestValidate(t *testing.T) {
	for _, b := range validBulletins() {
		if e := Validate(b); e != api.OK {
			t.Errorf("Validate(%v) = %d", b, e)
		}
	}
	if e := Validate(api.Bulletin{Centre: "EDZW", Reports: []api.Report{}}); e != api.OK {
		t.Errorf("Validate with an empty list = %d", e)
	}
	for want, l := range invalidBulletins() {
		for _, b := range l {
			if e := Validate(b); e != want {
				t.Errorf("Validate(%v) = %d, not %d", b, e, want)
			}
		}
	}
}

// P6.1: each byte at each position of the centre.
func TestValidateOfCentres(t *testing.T) {
	for i := range 4 {
		for c := range 256 {
			centre := []byte("KWBC")
			centre[i] = byte(c)
			want := api.ErrSyntax
			if c >= 'A' && c <= 'Z' {
				want = api.OK
			}
			b := bulletin(land())
			b.Centre = string(centre)
			if e := Validate(b); e != want {
				t.Errorf("Validate with the centre %q = %d, not %d", centre, e, want)
			}
		}
	}
}

// P6.1: all counts near the limits.
func TestValidateOfCounts(t *testing.T) {
	for correction := -2; correction <= 28; correction++ {
		for late := -2; late <= 28; late++ {
			want := api.OK
			switch {
			case correction < 0 || correction > 26 || late < 0 || late > 26:
				want = api.ErrRange
			case correction > 0 && late > 0:
				want = api.ErrState
			}
			b := bulletin(ship())
			b.Correction, b.Delayed = correction, late
			if e := Validate(b); e != want {
				t.Errorf("Validate with the correction %d and the delay %d = %d, not %d", correction, late, e, want)
			}
		}
	}
}

// P6.1: of all combinations of faults, the first one named decides.
func TestValidateReturnsTheFirstError(t *testing.T) {
	faults := []struct {
		e      api.Errno
		change func(b *api.Bulletin)
	}{
		{api.ErrSyntax, func(b *api.Bulletin) { b.Centre = "edzw" }},
		{api.ErrRange, func(b *api.Bulletin) { b.Time = -1 }},
		{api.ErrRange, func(b *api.Bulletin) { b.Correction = 27 }},
		{api.ErrRange, func(b *api.Bulletin) { b.Delayed = -1 }},
		{api.ErrState, func(b *api.Bulletin) {
			// Not in range stays as it is, and both are not 0 then too.
			if b.Correction == 0 {
				b.Correction = 1
			}
			if b.Delayed == 0 {
				b.Delayed = 2
			}
		}},
		{api.ErrLimit, func(b *api.Bulletin) { b.Reports = append(b.Reports, slices.Repeat([]api.Report{land()}, 60)...) }},
		{api.ErrOrder, func(b *api.Bulletin) {
			b.Reports[0].Readings = report(1, "", 0, api.Place{}, 2, 2800, 1, 10132).Readings
		}},
		{api.ErrState, func(b *api.Bulletin) { b.Reports[1].Time = 0 }},
		{api.ErrKind, func(b *api.Bulletin) { b.Reports[2].Kind = 0 }},
	}
	for set := range 1 << len(faults) {
		want := api.OK
		b := bulletin(land(), land(), land())
		for i, f := range faults {
			if set>>i&1 == 1 {
				if want == api.OK {
					want = f.e
				}
				f.change(&b)
			}
		}
		if e := Validate(b); e != want {
			t.Errorf("Validate with the faults %b = %d, not %d", set, e, want)
		}
		if text, e := Format(b); e != want || (text == "") != (want != api.OK) {
			t.Errorf("Format with the faults %b = %q, %d, not %d", set, text, e, want)
		}
	}
}

// P6.1: of two reports at fault, the first one decides.
func TestValidateReturnsTheErrorOfTheFirstReport(t *testing.T) {
	for want, firsts := range reportFaults() {
		for _, first := range firsts {
			for _, seconds := range reportFaults() {
				for _, second := range seconds {
					b := bulletin(land(), first, ship(), second)
					if e := Validate(b); e != want {
						t.Errorf("Validate(%v) = %d, not %d", b, e, want)
					}
				}
			}
		}
	}
}

// P6.1: a report must be readable near the time of the bulletin; within 14 days all are, and beyond a month none is.
func TestValidateOfTimesOfReports(t *testing.T) {
	for _, time := range []int{0, 20000, 84960, noon, api.MaxMinute - 50000, api.MaxMinute} {
		for distance := -100000; distance <= 100000; distance += 7 {
			r := land()
			r.Time = time + distance
			if r.Time < 0 || r.Time > api.MaxMinute {
				continue
			}
			e := Validate(api.Bulletin{Centre: "EDZW", Time: time, Reports: []api.Report{r}})
			near := distance > -20160 && distance < 20160
			far := distance < -31*1440 || distance > 31*1440
			if near && e != api.OK || far && e != api.ErrState || e != api.OK && e != api.ErrState {
				t.Fatalf("Validate of a report of the minute %d in a bulletin of %d = %d", r.Time, time, e)
			}
		}
	}
}

// P6.3: each bulletin differs from all others in one field or more.
func TestSame(t *testing.T) {
	var l []api.Bulletin
	add := func(change func(b *api.Bulletin)) {
		l = append(l, with(bulletin(land(), ship()), change))
	}
	add(func(b *api.Bulletin) {})
	add(func(b *api.Bulletin) { b.Centre = "EDZV" })
	add(func(b *api.Bulletin) { b.Centre = "" })
	add(func(b *api.Bulletin) { b.Centre = "edzw" })
	add(func(b *api.Bulletin) { b.Time++ })
	add(func(b *api.Bulletin) { b.Time = least })
	add(func(b *api.Bulletin) { b.Correction = 1 })
	add(func(b *api.Bulletin) { b.Delayed = 1 })
	add(func(b *api.Bulletin) { b.Correction, b.Delayed = 1, 1 })
	add(func(b *api.Bulletin) { b.Correction = most })
	add(func(b *api.Bulletin) { b.Reports = nil })
	add(func(b *api.Bulletin) { b.Reports = b.Reports[:1] })
	add(func(b *api.Bulletin) { b.Reports = b.Reports[1:] })
	add(func(b *api.Bulletin) { b.Reports = append(b.Reports, ship()) })
	add(func(b *api.Bulletin) { b.Reports = append(b.Reports, api.Report{}) })
	add(func(b *api.Bulletin) { slices.Reverse(b.Reports) })
	add(func(b *api.Bulletin) { b.Reports[0].Kind = 0 })
	add(func(b *api.Bulletin) { b.Reports[0].Name = "01235" })
	add(func(b *api.Bulletin) { b.Reports[1].Time++ })
	add(func(b *api.Bulletin) { b.Reports[1].Place.A++ })
	add(func(b *api.Bulletin) { b.Reports[1].Place.C++ })
	add(func(b *api.Bulletin) { b.Reports[1].Readings = nil })
	add(func(b *api.Bulletin) { b.Reports[1].Readings = b.Reports[1].Readings[:1] })
	add(func(b *api.Bulletin) {
		b.Reports[1].Readings = []api.Reading{{Element: 1, Value: 10132}, {Element: 4, Value: -58}}
	})
	for i, a := range l {
		for k, b := range l {
			if Same(a, copyOf(b)) != (i == k) {
				t.Errorf("Same(%v, %v) = %v", a, b, i != k)
			}
		}
	}
}

// P6.3 and rule 1
func TestSameOfEmptyLists(t *testing.T) {
	none, empty := bulletin(), bulletin()
	empty.Reports = []api.Report{}
	if !Same(none, empty) || !Same(empty, none) || !Same(api.Bulletin{}, api.Bulletin{Reports: []api.Report{}}) {
		t.Errorf("no reports and an empty list are not the same")
	}
	none, empty = bulletin(buoy()), bulletin(buoy())
	empty.Reports[0].Readings = []api.Reading{}
	if !Same(none, empty) || !Same(empty, none) {
		t.Errorf("no readings and an empty list are not the same")
	}
}

// copyOf returns a copy of a bulletin that shares no memory with it.
func copyOf(b api.Bulletin) api.Bulletin {
	b.Reports = slices.Clone(b.Reports)
	for i, r := range b.Reports {
		b.Reports[i].Readings = slices.Clone(r.Readings)
	}
	return b
}

// Rule 2
func TestArgumentsStayAsTheyAre(t *testing.T) {
	l := validBulletins()
	for _, more := range invalidBulletins() {
		l = append(l, more...)
	}
	for _, b := range l {
		if len(b.Reports) > 1000 {
			continue
		}
		before := fmt.Sprint(b)
		Validate(b)
		text, _ := Format(b)
		Same(b, b)
		Same(b, bulletin(ship()))
		if fmt.Sprint(b) != before {
			t.Errorf("%s became %v", before, b)
		}
		if text != "" && strings.Count(text, "\n") != len(b.Reports)+1 {
			t.Errorf("Format(%v) = %q", b, text)
		}
	}
}
