package registry

import (
	"fmt"
	"math/rand"
	"slices"
	"testing"

	"synoptic/api"
)

// P11.2
func TestSet(t *testing.T) {
	for i, c := range []struct {
		kind   int
		name   string
		p      api.Period
		change func(r *api.Registry)
	}{
		{api.Ship, "00000", open(5, api.Place{}, 1, 2), func(r *api.Registry) {
			r.Stations = slices.Insert(r.Stations, 0, stationOf(api.Ship, "00000", open(5, api.Place{}, 1, 2)))
		}},
		{api.Buoy, "A0000", closed(0), func(r *api.Registry) {
			r.Stations = slices.Insert(r.Stations, 2, stationOf(api.Buoy, "A0000", closed(0)))
		}},
		{api.Land, "ZZZZY", open(api.MaxMinute, first), func(r *api.Registry) {
			r.Stations = slices.Insert(r.Stations, 4, stationOf(api.Land, "ZZZZY", open(api.MaxMinute, first)))
		}},
		{api.Land, "ZZZZZ", closed(0), func(r *api.Registry) {
			r.Stations[4].Periods = []api.Period{closed(0), closed(api.MaxMinute)}
		}},
		{api.Land, "ZZZZZ", open(api.MaxMinute, edge, 11, -1000), func(r *api.Registry) {
			r.Stations[4].Periods = []api.Period{open(api.MaxMinute, edge, 11, -1000)}
		}},
		{api.Land, "01234", closed(1000), func(r *api.Registry) { r.Stations[0].Periods[1] = closed(1000) }},
		{api.Land, "01234", open(2000, second), func(r *api.Registry) { r.Stations[0].Periods[2] = open(2000, second) }},
		{api.Land, "01234", open(3000, edge), func(r *api.Registry) { r.Stations[0].Periods[3] = open(3000, edge) }},
		{api.Land, "01234", open(0, first, 1, 3), func(r *api.Registry) {}},
		{api.Land, "01234", open(999, first), func(r *api.Registry) {
			r.Stations[0].Periods = slices.Insert(r.Stations[0].Periods, 1, open(999, first))
		}},
		{api.Land, "01234", open(1001, inner, 2, 7, 3, 8), func(r *api.Registry) {
			r.Stations[0].Periods = slices.Insert(r.Stations[0].Periods, 2, open(1001, inner, 2, 7, 3, 8))
		}},
		{api.Land, "01234", closed(3001), func(r *api.Registry) {
			r.Stations[0].Periods = append(r.Stations[0].Periods, closed(3001))
		}},
	} {
		want := example()
		c.change(&want)
		got, e := Set(example(), c.kind, c.name, c.p)
		checkRegistry(t, fmt.Sprintf("Set %d", i), got, e, want)
	}
	for _, none := range [][]api.Station{nil, {}} {
		got, e := Set(api.Registry{Stations: none}, api.Land, "01234", open(0, first))
		checkRegistry(t, "Set in an empty registry", got, e, registryOf(stationOf(api.Land, "01234", open(0, first))))
	}
}

// P11.2: the errors in their order; each one comes before all that are further below.
func TestSetReturnsTheFirstError(t *testing.T) {
	for want, l := range invalid() {
		for _, r := range l {
			for _, kind := range []int{0, api.Land} {
				got, e := Set(r, kind, "0000", open(-1, first))
				checkError(t, "Set in an invalid registry", got, e, want)
				got, e = Set(r, kind, "MMMMM", open(0, first))
				checkError(t, "Set in an invalid registry", got, e, want)
			}
		}
	}
	for _, kind := range []int{0, 4, -1, 1<<32 + 1, least, most} {
		got, e := Set(full(), kind, "0000", open(-1, first))
		checkError(t, "Set of a kind that does not exist", got, e, api.ErrKind)
		got, e = Set(example(), kind, "01234", open(0, first))
		checkError(t, "Set of a kind that does not exist", got, e, api.ErrKind)
	}
	for _, name := range badNames() {
		got, e := Set(full(), api.Land, name, open(-1, first))
		checkError(t, "Set of a name that is not one", got, e, api.ErrSyntax)
		got, e = Set(example(), api.Ship, name, closed(0))
		checkError(t, "Set of a name that is not one", got, e, api.ErrSyntax)
	}
	for kind, l := range badPeriods() {
		for _, p := range l {
			for _, r := range []api.Registry{{}, example(), full()} {
				for _, name := range []string{"01234", "A0001", "DELTA", "MMMMM"} {
					got, e := Set(r, kind, name, p)
					checkError(t, fmt.Sprintf("Set of %v", p), got, e, api.ErrRange)
				}
			}
		}
	}
}

// P11.2
func TestSetOfAnotherKind(t *testing.T) {
	long := full()
	long.Stations[7] = stationOf(api.Ship, "AAAAA")
	long.Stations = slices.Delete(long.Stations, 8, 60)
	for i := range 8 {
		long.Stations[7].Periods = append(long.Stations[7].Periods, open(10*i, api.Place{}))
	}
	for _, r := range []api.Registry{example(), full(), base(), long} {
		for _, s := range r.Stations {
			for kind := api.Land; kind <= api.Buoy; kind++ {
				for _, p := range []api.Period{closed(0), closed(20), closed(77), closed(1000)} {
					got, e := Set(r, kind, s.Name, p)
					if kind != s.Kind {
						checkError(t, "Set of another kind", got, e, api.ErrState)
					} else if e != api.OK && (e != api.ErrLimit || len(s.Periods) < 8) {
						t.Fatalf("Set of %s = %d", s.Name, e)
					}
				}
			}
		}
	}
}

// P11.2: too many stations, and too many periods of one.
func TestSetOfTooMany(t *testing.T) {
	r := full()
	for _, name := range []string{"00000", "00002", "00060", "00120", "ZZZZZ"} {
		got, e := Set(r, api.Land, name, open(0, first))
		checkError(t, "Set of one more station", got, e, api.ErrLimit)
		less := full()
		less.Stations = slices.Delete(less.Stations, 30, 31)
		got, e = Set(less, api.Ship, name, closed(0))
		if e != api.OK || len(got.Stations) != 60 || Validate(got) != api.OK {
			t.Fatalf("Set of the last station = %d", e)
		}
		again, e := Set(got, api.Ship, "MMMMM", closed(0))
		checkError(t, "Set of one more station", again, e, api.ErrLimit)
	}
	for i, s := range r.Stations {
		for _, from := range []int{5, 35, 75, 1000, api.MaxMinute} {
			got, e := Set(r, s.Kind, s.Name, closed(from))
			if i%8 == 7 {
				checkError(t, "Set of one more period", got, e, api.ErrLimit)
			} else if e != api.OK || len(got.Stations[i].Periods) != i%8+2 || Validate(got) != api.OK {
				t.Fatalf("Set of the period %d of %s = %d", i%8+2, s.Name, e)
			}
		}
		for j, p := range s.Periods {
			got, e := Set(r, s.Kind, s.Name, closed(p.From))
			want := full()
			want.Stations[i].Periods[j] = closed(p.From)
			checkRegistry(t, "Set in the place of a period", got, e, want)
		}
	}
}

// P11.3
func TestRemove(t *testing.T) {
	for _, r := range []api.Registry{example(), full(), base()} {
		for i, s := range r.Stations {
			for j, p := range s.Periods {
				want := copied(r)
				want.Stations[i].Periods = slices.Delete(want.Stations[i].Periods, j, j+1)
				if len(s.Periods) == 1 {
					want.Stations = slices.Delete(want.Stations, i, i+1)
				}
				got, e := Remove(r, s.Name, p.From)
				checkRegistry(t, "Remove", got, e, want)
				got, e = Remove(got, s.Name, p.From)
				checkError(t, "Remove of what is removed", got, e, api.ErrMissing)
			}
		}
	}
}

// P11.3
func TestRemoveErrors(t *testing.T) {
	for want, l := range invalid() {
		for _, r := range l {
			for _, s := range append(r.Stations, stationOf(api.Land, "MMMMM")) {
				got, e := Remove(r, s.Name, 0)
				checkError(t, "Remove from an invalid registry", got, e, want)
				got, e = Remove(r, s.Name, 1000)
				checkError(t, "Remove from an invalid registry", got, e, want)
			}
		}
	}
	for _, c := range []struct {
		name string
		from int
	}{
		{"01234", 1}, {"01234", 999}, {"01234", 1001}, {"01234", 3001}, {"01234", -1}, {"01234", least}, {"01234", most}, {"01234", api.MaxMinute + 1},
		{"0ABCD", 0}, {"0ABCD", 700}, {"A0001", 500}, {"ZZZZZ", 0}, {"A0000", 700}, {"00000", 0}, {"ZZZZ", api.MaxMinute}, {"ZZZZZZ", api.MaxMinute}, {"", 0}, {"delta", 0}, {"\xff", 0},
	} {
		got, e := Remove(example(), c.name, c.from)
		checkError(t, fmt.Sprintf("Remove of %q from %d", c.name, c.from), got, e, api.ErrMissing)
		got, e = Remove(api.Registry{}, c.name, c.from)
		checkError(t, "Remove from an empty registry", got, e, api.ErrMissing)
	}
}

// P11.2 and P11.3: what changes is what a map of stations says.
func TestSetAndRemoveInAnyOrder(t *testing.T) {
	random := rand.New(rand.NewSource(11))
	counts := map[api.Errno]int{}
	for range 30 {
		m, r := model{}, api.Registry{}
		for range 200 {
			name, kind := randomName(random), random.Intn(3)+1
			if s, known := m[name]; known && random.Intn(8) > 0 {
				kind = s.kind
			}
			p := randomPeriod(random, kind)
			var got api.Registry
			var e, want api.Errno
			if random.Intn(4) > 0 {
				got, e = Set(r, kind, name, p)
				want = m.set(kind, name, p)
			} else {
				got, e = Remove(r, name, p.From)
				want = m.remove(name, p.From)
			}
			counts[e]++
			if want != api.OK {
				checkError(t, "a change", got, e, want)
				continue
			}
			checkRegistry(t, "a change", got, e, m.registry())
			if e := Validate(got); e != api.OK {
				t.Fatalf("Validate = %d, of\n%s", e, text(got))
			}
			r = got
		}
	}
	for _, e := range []api.Errno{api.OK, api.ErrMissing, api.ErrState, api.ErrLimit} {
		if counts[e] < 50 {
			t.Errorf("only %d changes with the error %d", counts[e], e)
		}
	}
}

// The consequences: a new period that is removed leaves the registry as it was, and questions about minutes before it do not depend on it.
func TestNewPeriods(t *testing.T) {
	random := rand.New(rand.NewSource(12))
	tried := 0
	for range 2000 {
		r := randomRegistry(random)
		name, kind := randomName(random), random.Intn(3)+1
		if s, known := modelOf(r)[name]; known {
			kind = s.kind
		}
		p := randomPeriod(random, kind)
		if _, there := modelOf(r)[name].periods[p.From]; there {
			continue
		}
		with, e := Set(r, kind, name, p)
		if e != api.OK {
			continue
		}
		tried++
		got, e := Remove(with, name, p.From)
		checkRegistry(t, "Remove of what was set", got, e, r)
		for minute := -2; minute < 15; minute++ {
			a, e := At(with, name, minute)
			b, f := At(r, name, minute)
			if minute < p.From && (e != f || !samePeriod(a, b)) {
				t.Fatalf("a period from %d changes the minute %d", p.From, minute)
			}
			if minute == p.From && (e != api.OK || !samePeriod(a, p)) {
				t.Fatalf("At = %v, %d, not %v", a, e, p)
			}
		}
	}
	if tried < 500 {
		t.Errorf("only %d registries", tried)
	}
}

// checkPeriod compares a period and an error with what is expected.
func checkPeriod(t *testing.T, name string, got api.Period, e api.Errno, want api.Period, found bool) {
	t.Helper()
	if !found {
		want = api.Period{}
	}
	if text(registryOf(stationOf(1, "", got))) != text(registryOf(stationOf(1, "", want))) || found != (e == api.OK) || !found && e != api.ErrMissing {
		t.Fatalf("%s: %v, %d, not %v, %t", name, got, e, want, found)
	}
}

// P11.4
func TestAt(t *testing.T) {
	r := example()
	own := r.Stations[0].Periods
	for _, c := range []struct {
		name   string
		minute int
		want   []api.Period
	}{
		{"01234", -1, nil}, {"01234", least, nil}, {"01234", 0, own[:1]}, {"01234", 1, own[:1]}, {"01234", 999, own[:1]},
		{"01234", 1000, own[1:2]}, {"01234", 1001, own[1:2]}, {"01234", 1999, own[1:2]}, {"01234", 2000, own[2:3]}, {"01234", 2999, own[2:3]},
		{"01234", 3000, own[3:]}, {"01234", api.MaxMinute, own[3:]}, {"01234", api.MaxMinute + 1, own[3:]}, {"01234", most, own[3:]},
		{"0ABCD", 499, nil}, {"0ABCD", 500, r.Stations[1].Periods}, {"0ABCD", 501, r.Stations[1].Periods},
		{"A0001", 699, nil}, {"A0001", 799, r.Stations[2].Periods[:1]}, {"A0001", 800, r.Stations[2].Periods[1:]},
		{"DELTA", 0, r.Stations[3].Periods[:1]}, {"DELTA", 5000, r.Stations[3].Periods[1:]},
		{"ZZZZZ", api.MaxMinute - 1, nil}, {"ZZZZZ", api.MaxMinute, r.Stations[4].Periods},
		{"01233", 5000, nil}, {"01235", 5000, nil}, {"", 5000, nil}, {"0123", 5000, nil}, {"012345", 5000, nil}, {"delta", 5000, nil}, {"\xff\xff", 5000, nil},
	} {
		got, e := At(r, c.name, c.minute)
		var want api.Period
		if len(c.want) > 0 {
			want = c.want[0]
		}
		checkPeriod(t, fmt.Sprintf("At of %s and %d", c.name, c.minute), got, e, want, len(c.want) > 0)
		got, e = At(api.Registry{}, c.name, c.minute)
		checkPeriod(t, "At of an empty registry", got, e, api.Period{}, false)
	}
}

// P11.4
func TestAtOfAnyRegistry(t *testing.T) {
	random := rand.New(rand.NewSource(13))
	for range 300 {
		r := randomRegistry(random)
		m := modelOf(r)
		for range 30 {
			name, minute := randomName(random), random.Intn(18)-3
			got, e := At(r, name, minute)
			want, found := m.at(name, minute)
			checkPeriod(t, fmt.Sprintf("At of %s and %d of\n%s", name, minute, text(r)), got, e, want, found)
		}
	}
}

// P11.4
func TestAtOfInvalidRegistries(t *testing.T) {
	for want, l := range invalid() {
		for _, r := range l {
			for _, s := range append(r.Stations, stationOf(api.Land, "MMMMM")) {
				for _, minute := range []int{-1, 0, 5000, most} {
					if got, e := At(r, s.Name, minute); e != want || !samePeriod(got, api.Period{}) {
						t.Fatalf("At of an invalid registry = %v, %d, not %d", got, e, want)
					}
				}
			}
		}
	}
}

// spoil changes all that a registry has memory for.
func spoil(r api.Registry) {
	for _, s := range r.Stations {
		for _, p := range s.Periods {
			for i := range p.Bias {
				p.Bias[i] = api.Reading{Element: 9, Value: 9}
			}
			_ = append(p.Bias, api.Reading{Element: 9, Value: 9})
		}
		for i := range s.Periods {
			s.Periods[i] = closed(99)
		}
		_ = append(s.Periods, closed(99))
	}
	for i := range r.Stations {
		r.Stations[i] = api.Station{Name: "spoil"}
	}
	_ = append(r.Stations, api.Station{Name: "spoil"})
}

// roomy returns a registry whose lists have more memory than elements.
func roomy(r api.Registry) api.Registry {
	all := api.Registry{Stations: append(make([]api.Station, 0, 99), r.Stations...)}
	for i := range all.Stations {
		own := &all.Stations[i]
		own.Periods = append(make([]api.Period, 0, 20), own.Periods...)
		for j := range own.Periods {
			own.Periods[j].Bias = append(make([]api.Reading, 0, 20), own.Periods[j].Bias...)
		}
	}
	return all
}

// behind returns what lies in the memory of a registry behind the elements of its lists.
func behind(r api.Registry) api.Registry {
	all := api.Registry{Stations: append(make([]api.Station, 0, 99), r.Stations[len(r.Stations):cap(r.Stations)]...)}
	for _, s := range r.Stations {
		own := s
		own.Periods = append([]api.Period(nil), s.Periods[len(s.Periods):cap(s.Periods)]...)
		for _, p := range s.Periods {
			own.Periods = append(own.Periods, api.Period{Bias: append([]api.Reading(nil), p.Bias[len(p.Bias):cap(p.Bias)]...)})
		}
		all.Stations = append(all.Stations, own)
	}
	return all
}

// Rule 2: arguments do not change, and results are new memory.
func TestResultsAreNew(t *testing.T) {
	r := roomy(example())
	before := text(behind(r))
	p := roomy(registryOf(stationOf(api.Land, "AAAAA", open(1000, second, 1, 5, 2, 6)))).Stations[0].Periods[0]
	check := func(name string) {
		t.Helper()
		if text(r) != text(example()) || text(behind(r)) != before {
			t.Fatalf("%s changes the registry", name)
		}
		if !samePeriod(p, open(1000, second, 1, 5, 2, 6)) || p.Bias[:3][2] != (api.Reading{}) {
			t.Fatalf("%s changes the period", name)
		}
	}
	for _, name := range []string{"00000", "01234", "0ABCD", "MMMMM", "ZZZZZ"} {
		got, e := Set(r, api.Land, name, p)
		if e != api.OK {
			t.Fatalf("Set = %d", e)
		}
		check("Set")
		spoil(got)
		check("a change of the result of Set")
	}
	for _, s := range r.Stations {
		for _, old := range s.Periods {
			got, _ := Remove(r, s.Name, old.From)
			check("Remove")
			spoil(got)
			check("a change of the result of Remove")
			at, _ := At(r, s.Name, old.From)
			check("At")
			spoil(registryOf(stationOf(s.Kind, s.Name, at)))
			check("a change of the result of At")
		}
	}
}

// Rule 2 and the rule that no two lists of a result share memory.
func TestStationsShareNoMemory(t *testing.T) {
	bias := readings(1, 5, 2, 6)
	periods := []api.Period{{From: 5, Bias: bias}, {From: 6, Bias: bias}}
	r := registryOf(stationOf(api.Ship, "AAAAA", periods...), stationOf(api.Ship, "BBBBB", periods...))
	r.Stations[1].Periods = r.Stations[0].Periods
	got, e := Set(r, api.Ship, "CCCCC", periods[0])
	if e != api.OK {
		t.Fatalf("Set = %d", e)
	}
	got.Stations[0].Periods[0].Bias[0].Value = 7
	got.Stations[2].Periods[0].Bias[0].Value = 8
	got.Stations[0].Periods[1].From = 9
	want := registryOf(
		stationOf(api.Ship, "AAAAA", open(5, api.Place{}, 1, 7, 2, 6), open(9, api.Place{}, 1, 5, 2, 6)),
		stationOf(api.Ship, "BBBBB", open(5, api.Place{}, 1, 5, 2, 6), open(6, api.Place{}, 1, 5, 2, 6)),
		stationOf(api.Ship, "CCCCC", open(5, api.Place{}, 1, 8, 2, 6)),
	)
	checkRegistry(t, "Set after changes", got, e, want)
}
