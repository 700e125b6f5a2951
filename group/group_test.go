package group

import (
	"slices"
	"testing"
	"time"

	"synoptic/api"
)

const (
	least = -1 << 63
	most  = 1<<63 - 1
)

// at returns the minute of a date, counted by the calendar of Go's library.
func at(year, month, day, hour, minute int) int {
	start := time.Date(2000, 1, 1, 0, 0, 0, 0, time.UTC)
	return int(time.Date(year, time.Month(month), day, hour, minute, 0, 0, time.UTC).Sub(start) / time.Minute)
}

func spot(face, a, b, c int) api.Place {
	return api.Place{Face: face, A: a, B: b, C: c}
}

// list returns the readings whose elements and values are given in turn.
func list(numbers ...int) []api.Reading {
	var l []api.Reading
	for i := 0; i < len(numbers); i += 2 {
		l = append(l, api.Reading{Element: numbers[i], Value: numbers[i+1]})
	}
	return l
}

func report(kind int, name string, minute int, where api.Place, readings ...int) api.Report {
	return api.Report{Kind: kind, Name: name, Time: minute, Place: where, Readings: list(readings...)}
}

// land returns a valid report that the tests change.
func land() api.Report {
	return report(api.Land, "01234", at(2026, 11, 16, 17, 20), api.Place{}, 1, 10132, 2, 2800)
}

// ship returns a valid report that the tests change.
func ship() api.Report {
	return report(api.Ship, "DELTA", at(2026, 11, 16, 17, 20), spot(5, 420, 420, 0), 1, 10132, 4, -57)
}

// with returns a report after a change.
func with(r api.Report, change func(r *api.Report)) api.Report {
	change(&r)
	return r
}

func validReports() []api.Report {
	return []api.Report{
		land(),
		ship(),
		report(api.Land, "AAAAA", 0, api.Place{}),
		report(api.Land, "ZZZZZ", api.MaxMinute, api.Place{}, 11, 2900),
		report(api.Land, "00000", 1, api.Place{}, 2, 1800),
		report(api.Land, "99999", 84960, api.Place{}, 1, 8000, 2, 1800, 3, 1800, 4, -1000, 5, -1000, 6, 900, 7, 2000, 8, 2400, 9, 2000, 10, 4400, 11, 2000),
		report(api.Ship, "A0Z9M", 0, spot(0, 0, 0, 840)),
		report(api.Ship, "SHIP1", api.MaxMinute, spot(0, 840, 0, 0), 1, 11000),
		report(api.Ship, "00001", 5000000, spot(19, 1, 1, 838), 5, 0),
		report(api.Buoy, "BUOY0", 12345678, spot(5, 420, 420, 0), 10, 6200),
		report(api.Buoy, "B1B1B", 84960, spot(15, 840, 0, 0), 1, 11000, 2, 3300, 3, 3300, 4, 1000, 5, 1000, 6, 1700, 7, 3200, 8, 3400, 9, 3000, 10, 6200, 11, 2900),
	}
}

// invalidReports returns reports with the error of each.
func invalidReports() map[api.Errno][]api.Report {
	l := map[api.Errno][]api.Report{}
	add := func(e api.Errno, base api.Report, change func(r *api.Report)) {
		l[e] = append(l[e], with(base, change))
	}
	for _, kind := range []int{0, -1, 4, 5, 1<<32 + 1, -1<<32 + 2, least, least + 1, most} {
		add(api.ErrKind, land(), func(r *api.Report) { r.Kind = kind })
		add(api.ErrKind, ship(), func(r *api.Report) { r.Kind = kind })
	}
	for _, name := range []string{"", "A", "ABCD", "ABCDEF", "ABCDEABCDE", "delta", "DELTa", "dELTA", "DE TA", " ELTA", "DELT ", "DELTA ", " DELTA", "DE-TA", "-1234", "12.34", "DELT\n", "DELT\x00", "ÄÖA", "DELTÄ", "DELÄ", "DELT\u0660", "DELТA", "\xff\xff\xff\xff\xff"} {
		add(api.ErrSyntax, land(), func(r *api.Report) { r.Name = name })
		add(api.ErrSyntax, ship(), func(r *api.Report) { r.Name = name })
	}
	for _, minute := range []int{-1, api.MaxMinute + 1, 1 << 32, least, most} {
		add(api.ErrRange, land(), func(r *api.Report) { r.Time = minute })
		add(api.ErrRange, ship(), func(r *api.Report) { r.Time = minute })
	}
	for _, where := range []api.Place{spot(5, 420, 420, 0), spot(0, 0, 0, 840), spot(0, 0, 0, 1), spot(0, 0, -1, 0), spot(0, 1, 0, 0), spot(1, 0, 0, 0), spot(19, 840, 0, 0)} {
		add(api.ErrRange, land(), func(r *api.Report) { r.Place = where })
	}
	for _, where := range []api.Place{
		{}, spot(5, 0, 0, 0), spot(-1, 420, 420, 0), spot(20, 280, 280, 280), spot(5, 420, 420, 1), spot(5, 420, 419, 0), spot(5, -1, 420, 421), spot(5, 841, -1, 0), spot(5, least, least, 840), spot(least, 280, 280, 280),
		// Valid, but not normal: on an edge or at a vertex that also belongs to a lesser face.
		spot(14, 0, 420, 420), spot(1, 0, 840, 0), spot(1, 840, 0, 0), spot(1, 1, 839, 0), spot(19, 840, 0, 0), spot(15, 0, 300, 540),
	} {
		add(api.ErrRange, ship(), func(r *api.Report) { r.Place = where })
		add(api.ErrRange, ship(), func(r *api.Report) { r.Kind, r.Place = api.Buoy, where })
	}
	for _, readings := range [][]int{{1, 7999}, {1, 11001}, {1, 10132, 4, -1001}, {11, 2901}, {2, 2800, 1, 0}} {
		add(api.ErrRange, land(), func(r *api.Report) { r.Readings = list(readings...) })
		add(api.ErrRange, ship(), func(r *api.Report) { r.Readings = list(readings...) })
	}
	for _, readings := range [][]int{{0, 0}, {12, 2800}, {-1, 0}, {1, 10132, 99, 0}, {2, 0, 1, 0, 0, 0}} {
		add(api.ErrKind, land(), func(r *api.Report) { r.Readings = list(readings...) })
		add(api.ErrKind, ship(), func(r *api.Report) { r.Readings = list(readings...) })
	}
	for _, readings := range [][]int{{1, 10132, 1, 10132}, {2, 2800, 1, 10132}, {1, 10132, 3, 2800, 2, 2800}} {
		add(api.ErrOrder, land(), func(r *api.Report) { r.Readings = list(readings...) })
		add(api.ErrOrder, ship(), func(r *api.Report) { r.Readings = list(readings...) })
	}
	return l
}

// P5.1
func TestValidate(t *testing.T) {
	for _, r := range validReports() {
		if e := Validate(r); e != api.OK {
			t.Errorf("Validate(%v) = %d", r, e)
		}
		r.Readings = []api.Reading{}
		if e := Validate(r); e != api.OK {
			t.Errorf("Validate(%v) with an empty list = %d", r, e)
		}
	}
	for want, l := range invalidReports() {
		for _, r := range l {
			if e := Validate(r); e != want {
				t.Errorf("Validate(%v) = %d, not %d", r, e, want)
			}
		}
	}
}

// P5.1: each byte at each position of a name.
func TestValidateOfNames(t *testing.T) {
	for i := range 5 {
		for b := range 256 {
			name := []byte("QX7RS")
			name[i] = byte(b)
			want := api.ErrSyntax
			if b >= 'A' && b <= 'Z' || b >= '0' && b <= '9' {
				want = api.OK
			}
			for _, r := range []api.Report{land(), ship()} {
				r.Name = string(name)
				if e := Validate(r); e != want {
					t.Errorf("Validate with the name %q = %d, not %d", name, e, want)
				}
			}
		}
	}
}

// P5.1: of all combinations of faults, the first one named decides.
func TestValidateReturnsTheFirstError(t *testing.T) {
	faults := []struct {
		e      api.Errno
		change func(r *api.Report)
	}{
		{api.ErrKind, func(r *api.Report) { r.Kind = 4 }},
		{api.ErrSyntax, func(r *api.Report) { r.Name = "delta" }},
		{api.ErrRange, func(r *api.Report) { r.Time = -1 }},
		{api.ErrRange, func(r *api.Report) { r.Place = spot(14, 0, 420, 420) }},
		{api.ErrKind, func(r *api.Report) { r.Readings = append(slices.Clone(r.Readings), list(12, 0)...) }},
		{api.ErrRange, func(r *api.Report) { r.Readings = append(slices.Clone(r.Readings), list(6, 0)...) }},
		{api.ErrOrder, func(r *api.Report) { r.Readings = append(slices.Clone(r.Readings), list(2, 2800)...) }},
	}
	for set := range 1 << len(faults) {
		for _, r := range []api.Report{land(), ship()} {
			want := api.OK
			for i, fault := range faults {
				if set>>i&1 == 0 {
					continue
				}
				fault.change(&r)
				if want == api.OK {
					want = fault.e
				}
			}
			if e := Validate(r); e != want {
				t.Errorf("Validate(%v) = %d, not %d", r, e, want)
			}
		}
	}
}

// dated returns the minutes with a day of the month, an hour and a minute, ascending, by the calendar of Go's library.
func dated(day, hour, minute int) []int {
	var l []int
	for month := range 1200 {
		first := time.Date(2000, time.Month(1+month), 1, hour, minute, 0, 0, time.UTC)
		if own := first.AddDate(0, 0, day-1); own.Month() == first.Month() {
			l = append(l, at(own.Year(), int(own.Month()), own.Day(), hour, minute))
		}
	}
	return l
}

// nearest returns the minute of an ascending list that is nearest to near, of two equally near ones the lesser.
func nearest(l []int, near int) int {
	best := l[0]
	for _, m := range l {
		if max(m-near, near-m) < max(best-near, near-best) {
			best = m
		}
	}
	return best
}

// P5.2
func TestReadable(t *testing.T) {
	for _, date := range [][5]int{{2000, 1, 1, 0, 0}, {2000, 2, 29, 12, 30}, {2026, 11, 16, 17, 20}, {2027, 1, 31, 0, 0}, {2030, 3, 30, 23, 59}, {2099, 12, 31, 23, 59}} {
		r := ship()
		r.Time = at(date[0], date[1], date[2], date[3], date[4])
		all := dated(date[2], date[3], date[4])
		for near := max(0, r.Time-70*1440); near <= min(api.MaxMinute, r.Time+70*1440); near += 97 {
			if want := nearest(all, near) == r.Time; Readable(r, near) != want {
				t.Fatalf("Readable(%v, %d) is not %v", r, near, want)
			}
		}
	}
}

// P5.2: at the middle between two months the lesser one counts, and the ends of the range have months on one side only.
func TestReadableAtTheBorders(t *testing.T) {
	for _, x := range []struct {
		minute, near int
		want         bool
	}{
		// From October 16 to November 16 there are 31 days, and 30 from there to December 16.
		{at(2026, 11, 16, 17, 20), at(2026, 11, 1, 5, 20), false},
		{at(2026, 11, 16, 17, 20), at(2026, 11, 1, 5, 21), true},
		{at(2026, 10, 16, 17, 20), at(2026, 11, 1, 5, 20), true},
		{at(2026, 10, 16, 17, 20), at(2026, 11, 1, 5, 21), false},
		{at(2026, 11, 16, 17, 20), at(2026, 12, 1, 17, 20), true},
		{at(2026, 11, 16, 17, 20), at(2026, 12, 1, 17, 21), false},
		// February has no day 31: from that of January to that of March there are 59 days.
		{at(2026, 1, 31, 0, 0), at(2026, 3, 1, 12, 0), true},
		{at(2026, 1, 31, 0, 0), at(2026, 3, 1, 12, 1), false},
		{at(2026, 3, 31, 0, 0), at(2026, 3, 1, 12, 0), false},
		{at(2026, 3, 31, 0, 0), at(2026, 3, 1, 12, 1), true},
		{at(2000, 1, 31, 23, 59), 0, true},
		{at(2000, 2, 29, 23, 59), 0, false},
		{at(2099, 12, 1, 0, 0), api.MaxMinute, true},
		{at(2099, 11, 30, 0, 0), api.MaxMinute, false},
		{at(2050, 1, 1, 0, 0), at(2051, 1, 1, 0, 0), false},
		{0, 0, true},
		{0, api.MaxMinute, false},
		{api.MaxMinute, api.MaxMinute, true},
		{api.MaxMinute, 0, false},
	} {
		// Land and Ship differ in their places only.
		for _, r := range []api.Report{land(), ship()} {
			r.Time = x.minute
			if Readable(r, x.near) != x.want {
				t.Errorf("Readable(%v, %d) is not %v", r, x.near, x.want)
			}
		}
	}
}

// P5.2
func TestReadableOfInvalidArguments(t *testing.T) {
	for _, l := range invalidReports() {
		for _, r := range l {
			for _, near := range []int{r.Time, at(2026, 11, 16, 17, 20), -1, api.MaxMinute + 1} {
				if Readable(r, near) {
					t.Errorf("Readable(%v, %d) is true", r, near)
				}
			}
		}
	}
	for _, r := range validReports() {
		if !Readable(r, r.Time) {
			t.Errorf("Readable(%v, %d) is false", r, r.Time)
		}
		for _, near := range []int{-1, api.MaxMinute + 1, 1<<32 + r.Time, least, most} {
			if Readable(r, near) {
				t.Errorf("Readable(%v, %d) is true", r, near)
			}
		}
	}
}

// ascending returns reports, valid or not, each of which is greater than all before it.
func ascending() []api.Report {
	return []api.Report{
		report(least, "ZZZZZ", 9, spot(9, 9, 9, 9), 9, 9),
		report(-1, "ZZZZZ", 9, spot(9, 9, 9, 9), 9, 9),
		{},
		report(1, "", 9, spot(9, 9, 9, 9), 9, 9),
		report(1, "0", 9, spot(9, 9, 9, 9), 9, 9),
		report(1, "09999", 9, spot(9, 9, 9, 9), 9, 9),
		report(1, "A", 9, spot(9, 9, 9, 9), 9, 9),
		report(1, "A1", 9, spot(9, 9, 9, 9), 9, 9),
		report(1, "AA", 9, spot(9, 9, 9, 9), 9, 9),
		report(1, "B", 9, spot(9, 9, 9, 9), 9, 9),
		report(1, "a", 9, spot(9, 9, 9, 9), 9, 9),
		report(1, "é", 9, spot(9, 9, 9, 9), 9, 9),
		report(1, "\xff", 9, spot(9, 9, 9, 9), 9, 9),
		report(2, "DELTA", least, spot(9, 9, 9, 9), 9, 9),
		report(2, "DELTA", -1, spot(9, 9, 9, 9), 9, 9),
		report(2, "DELTA", 0, spot(9, 9, 9, 9), 9, 9),
		report(2, "DELTA", 5, spot(least, 9, 9, 9), 9, 9),
		report(2, "DELTA", 5, spot(0, 9, 9, 9), 9, 9),
		report(2, "DELTA", 5, spot(1, least, 9, 9), 9, 9),
		report(2, "DELTA", 5, spot(1, 0, 9, 9), 9, 9),
		report(2, "DELTA", 5, spot(1, 1, least, 9), 9, 9),
		report(2, "DELTA", 5, spot(1, 1, 0, 9), 9, 9),
		report(2, "DELTA", 5, spot(1, 1, 1, least), 9, 9),
		report(2, "DELTA", 5, spot(1, 1, 1, 0), 9, 9),
		report(2, "DELTA", 5, spot(1, 1, 1, 1)),
		report(2, "DELTA", 5, spot(1, 1, 1, 1), least, 9),
		report(2, "DELTA", 5, spot(1, 1, 1, 1), 0, 9),
		report(2, "DELTA", 5, spot(1, 1, 1, 1), 0, 9, 9, 9),
		report(2, "DELTA", 5, spot(1, 1, 1, 1), 1, least),
		report(2, "DELTA", 5, spot(1, 1, 1, 1), 1, -1, 9, 9),
		report(2, "DELTA", 5, spot(1, 1, 1, 1), 1, 1),
		report(2, "DELTA", 5, spot(1, 1, 1, 1), 1, 1, 1, 1),
		report(2, "DELTA", 5, spot(1, 1, 1, 1), 1, 1, 1, 1, 1, 1),
		report(2, "DELTA", 5, spot(1, 1, 1, 1), 1, 1, 1, 2),
		report(2, "DELTA", 5, spot(1, 1, 1, 1), 1, 1, 2, 0),
		report(2, "DELTA", 5, spot(1, 1, 1, 1), 1, 2),
		report(2, "DELTA", 5, spot(1, 1, 1, 1), 1, most),
		report(2, "DELTA", 5, spot(1, 1, 1, 1), 2, 0),
		report(2, "DELTA", 5, spot(1, 1, 1, 1), most, 0),
		report(2, "DELTA", 5, spot(1, 1, 1, 2)),
		report(2, "DELTA", 5, spot(1, 1, 1, most)),
		report(2, "DELTA", 5, spot(1, 1, 2, 0)),
		report(2, "DELTA", 5, spot(1, 1, most, 0)),
		report(2, "DELTA", 5, spot(1, 2, 0, 0)),
		report(2, "DELTA", 5, spot(1, most, 0, 0)),
		report(2, "DELTA", 5, spot(2, 0, 0, 0)),
		report(2, "DELTA", 5, spot(most, 0, 0, 0)),
		report(2, "DELTA", 6, api.Place{}),
		report(2, "DELTA", 1<<32, api.Place{}),
		report(2, "DELTA", most, api.Place{}),
		report(2, "DELTB", 0, api.Place{}),
		report(3, "", 0, api.Place{}),
		report(1<<32, "", 0, api.Place{}),
		report(most, "", 0, api.Place{}),
	}
}

// P5.4 and the consequence: Compare is 0 exactly if Same is true.
func TestSameAndCompare(t *testing.T) {
	first := ascending()
	for i, a := range first {
		for j, b := range ascending() {
			want := 0
			if i < j {
				want = -1
			} else if i > j {
				want = 1
			}
			if got := Compare(a, b); got != want {
				t.Errorf("Compare(%v, %v) = %d, not %d", a, b, got, want)
			}
			if got := Same(a, b); got != (want == 0) {
				t.Errorf("Same(%v, %v) = %v", a, b, got)
			}
		}
	}
}

// P5.4: a report that differs from another one in a single field is not the same.
func TestSameLooksAtEveryField(t *testing.T) {
	for i, change := range []func(r *api.Report){
		func(r *api.Report) { r.Kind = api.Buoy },
		func(r *api.Report) { r.Name = "DELTB" },
		func(r *api.Report) { r.Time++ },
		func(r *api.Report) { r.Place.Face++ },
		func(r *api.Report) { r.Place.A++ },
		func(r *api.Report) { r.Place.B++ },
		func(r *api.Report) { r.Place.C++ },
		func(r *api.Report) { r.Readings = nil },
		func(r *api.Report) { r.Readings = r.Readings[:1] },
		func(r *api.Report) { r.Readings = append(slices.Clone(r.Readings), list(11, 2500)...) },
		func(r *api.Report) { r.Readings = list(1, 10132, 4, -56) },
		func(r *api.Report) { r.Readings = list(1, 10132, 5, -57) },
		func(r *api.Report) { r.Readings = list(2, 10132, 4, -57) },
		func(r *api.Report) { r.Readings = list(4, -57, 1, 10132) },
	} {
		other := with(ship(), change)
		if Same(ship(), other) || Same(other, ship()) {
			t.Errorf("the change %d does not matter to Same", i)
		}
		if c := Compare(ship(), other); c == 0 || c != -Compare(other, ship()) {
			t.Errorf("the change %d gives %d and %d", i, c, Compare(other, ship()))
		}
	}
}

// P5.4 and rule 1: nil and empty lists are the same.
func TestSameOfEmptyLists(t *testing.T) {
	a := with(ship(), func(r *api.Report) { r.Readings = nil })
	b := with(ship(), func(r *api.Report) { r.Readings = []api.Reading{} })
	if !Same(a, b) || !Same(b, a) || Compare(a, b) != 0 || Compare(b, a) != 0 {
		t.Errorf("%v and %v are not the same", a, b)
	}
}

// Rule 2: no function changes its arguments.
func TestArgumentsStay(t *testing.T) {
	for _, l := range [][]api.Reading{list(2, 2800, 1, 10132, 1, 10132), list(1, 10132, 4, -57)} {
		r := with(ship(), func(r *api.Report) { r.Readings = slices.Clone(l) })
		Validate(r)
		Format(r)
		Readable(r, r.Time)
		Same(r, ship())
		Compare(r, ship())
		if !slices.Equal(r.Readings, l) {
			t.Errorf("%v became %v", l, r.Readings)
		}
	}
}
