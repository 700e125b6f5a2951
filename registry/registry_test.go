package registry

import (
	"fmt"
	"math/rand"
	"slices"
	"testing"

	"synoptic/api"
)

const (
	least = -1 << 63
	most  = 1<<63 - 1
)

var (
	first  = api.Place{Face: 0, A: 840, B: 0, C: 0}
	second = api.Place{Face: 0, A: 0, B: 840, C: 0}
	edge   = api.Place{Face: 5, A: 420, B: 420, C: 0}
	inner  = api.Place{Face: 19, A: 1, B: 1, C: 838}
)

// readings returns readings that are given as elements and values in turn.
func readings(numbers ...int) []api.Reading {
	var l []api.Reading
	for i := 0; i < len(numbers); i += 2 {
		l = append(l, api.Reading{Element: numbers[i], Value: numbers[i+1]})
	}
	return l
}

// open returns a period whose bias is given as elements and values in turn.
func open(from int, at api.Place, numbers ...int) api.Period {
	return api.Period{From: from, Place: at, Bias: readings(numbers...)}
}

func closed(from int) api.Period {
	return api.Period{From: from, Closed: true}
}

func stationOf(kind int, name string, periods ...api.Period) api.Station {
	return api.Station{Kind: kind, Name: name, Periods: periods}
}

func registryOf(stations ...api.Station) api.Registry {
	return api.Registry{Stations: stations}
}

// example returns a valid registry with stations of all kinds, one of which comes back after it was closed.
func example() api.Registry {
	return registryOf(
		stationOf(api.Land, "01234", open(0, first, api.Pressure, 3), open(1000, second), closed(2000), open(3000, edge, api.Pressure, -1000, api.T500, 1000)),
		stationOf(api.Land, "0ABCD", open(500, inner, api.Air, -5, api.East, 60, api.North, -60)),
		stationOf(api.Buoy, "A0001", open(700, api.Place{}, api.Dew, 1), closed(800)),
		stationOf(api.Ship, "DELTA", open(0, api.Place{}), open(1000, api.Place{}, api.Pressure, 7, api.Air, -2)),
		stationOf(api.Land, "ZZZZZ", closed(api.MaxMinute)),
	)
}

// full returns a valid registry with MaxStations stations; the one with the index i has i%8 + 1 periods, and a name that ends in an odd digit.
func full() api.Registry {
	var r api.Registry
	for i := range api.MaxStations {
		s := stationOf(i%3+1, fmt.Sprintf("%05d", 2*i+1))
		for j := range i%8 + 1 {
			p := open(10*j, api.Place{}, []int{1, i, 2, -j}[:j%3*2]...)
			if s.Kind == api.Land {
				p.Place = inner
			}
			s.Periods = append(s.Periods, p)
		}
		r.Stations = append(r.Stations, s)
	}
	return r
}

// copied returns a registry that shares no memory with r.
func copied(r api.Registry) api.Registry {
	var all api.Registry
	for _, s := range r.Stations {
		own := api.Station{Kind: s.Kind, Name: s.Name}
		for _, p := range s.Periods {
			p.Bias = append([]api.Reading(nil), p.Bias...)
			own.Periods = append(own.Periods, p)
		}
		all.Stations = append(all.Stations, own)
	}
	return all
}

// text returns a text that is the same exactly for registries that are the same.
func text(r api.Registry) string {
	s := ""
	for _, x := range r.Stations {
		s += fmt.Sprintf("%d %q\n", x.Kind, x.Name)
		for _, p := range x.Periods {
			s += fmt.Sprintf("  %d %t %d %d %d %d:", p.From, p.Closed, p.Place.Face, p.Place.A, p.Place.B, p.Place.C)
			for _, b := range p.Bias {
				s += fmt.Sprintf(" %d=%d", b.Element, b.Value)
			}
			s += "\n"
		}
	}
	return s
}

// checkRegistry compares a registry and an error with what is expected.
func checkRegistry(t *testing.T, name string, got api.Registry, e api.Errno, want api.Registry) {
	t.Helper()
	if e != api.OK || text(got) != text(want) {
		t.Fatalf("%s: %d\n%s, not\n%s", name, e, text(got), text(want))
	}
}

// checkError checks that a call has an error and no registry.
func checkError(t *testing.T, name string, got api.Registry, e, want api.Errno) {
	t.Helper()
	if len(got.Stations) != 0 || e != want {
		t.Fatalf("%s: %d\n%s, not the error %d", name, e, text(got), want)
	}
}

// fault is a change after which the registry has an error, because of the station with an index.
type fault struct {
	e      api.Errno
	change func(r *api.Registry, i int)
}

// badPeriods returns, by kind, periods that are not valid for it.
func badPeriods() map[int][]api.Period {
	bad := map[int][]api.Period{}
	for _, kind := range []int{api.Land, api.Ship, api.Buoy} {
		at, other := api.Place{}, inner
		if kind == api.Land {
			at, other = other, at
		}
		for _, n := range []int{-1, api.MaxMinute + 1, 1 << 32, least, most} {
			bad[kind] = append(bad[kind], open(n, at), open(n, at, 1, 5), closed(n))
		}
		for _, n := range []int{1001, -1001, 1<<32 + 1, least, most} {
			bad[kind] = append(bad[kind], open(0, at, 1, n), open(0, at, 5, 0, 11, n), open(0, at, 6, n, 7, 0))
		}
		for _, n := range []int{-1, 0, 12, 1<<32 + 1, least, most} {
			bad[kind] = append(bad[kind], open(0, at, n, 5), open(0, at, n, 0), open(0, at, 1, 5, n, 5), open(0, at, n, 5, 11, 5))
		}
		bad[kind] = append(bad[kind],
			open(0, at, 1, 5, 1, 5), open(0, at, 1, 5, 1, 6), open(0, at, 2, 5, 1, 5), open(0, at, 1, 5, 11, 5, 10, 5), open(0, at, 4, 1, 3, 2, 5, 3),
			open(0, other), open(0, other, 1, 5),
			api.Period{Closed: true, Place: inner}, api.Period{Closed: true, Place: api.Place{Face: 1}}, api.Period{Closed: true, Place: api.Place{A: 840}},
			api.Period{Closed: true, Bias: readings(1, 5)}, api.Period{Closed: true, Bias: readings(1, 0)}, api.Period{Closed: true, Place: at, Bias: readings(12, 5)},
		)
	}
	for _, at := range []api.Place{
		{}, {Face: 1}, {A: 839}, {A: 841}, {A: 841, B: -1}, {A: -1, B: 421, C: 420}, {Face: 20, A: 1, B: 1, C: 838}, {Face: -1, A: 1, B: 1, C: 838}, {Face: most, A: least, B: most, C: 841},
		{Face: 1, A: 0, B: 840, C: 0}, {Face: 1, A: 840}, {Face: 14, A: 0, B: 420, C: 420}, {Face: 5, A: 1, B: 0, C: 839}, {Face: 19, A: 0, B: 1, C: 839},
	} {
		bad[api.Land] = append(bad[api.Land], open(0, at))
	}
	for _, kind := range []int{api.Ship, api.Buoy} {
		bad[kind] = append(bad[kind], open(0, first), open(0, edge), open(0, api.Place{Face: 1}), open(0, api.Place{C: 1}), open(0, api.Place{A: -1}))
	}
	return bad
}

// badNames returns texts that are not names.
func badNames() []string {
	return []string{"", "0000", "000000", "0000a", "z0000", "0000 ", " 0000", "00-00", "0000\n", "0000\x00", "\xff0000", "000Ä", "ÄÄ0", "AAAAAAAAAA"}
}

// faults returns changes of a station of base that is not its first or last one; the errors are those of the whole registry.
func faults() []fault {
	var l []fault
	add := func(e api.Errno, change func(s *api.Station)) {
		l = append(l, fault{e, func(r *api.Registry, i int) { change(&r.Stations[i]) }})
	}
	add(api.ErrLimit, func(s *api.Station) { s.Periods = nil })
	add(api.ErrLimit, func(s *api.Station) { s.Periods = []api.Period{} })
	add(api.ErrLimit, func(s *api.Station) { s.Periods = make([]api.Period, api.MaxPeriods+1) })
	for _, kind := range []int{0, 4, -1, 1<<32 + 1, least, most} {
		add(api.ErrKind, func(s *api.Station) { s.Kind = kind })
	}
	for _, name := range badNames() {
		add(api.ErrSyntax, func(s *api.Station) { s.Name = name })
	}
	bad := badPeriods()
	for i := range bad[api.Buoy] {
		add(api.ErrRange, func(s *api.Station) { s.Periods[0] = bad[s.Kind][i] })
		add(api.ErrRange, func(s *api.Station) { s.Periods[len(s.Periods)-1] = bad[s.Kind][i] })
	}
	add(api.ErrOrder, func(s *api.Station) { s.Periods = append(s.Periods, s.Periods[len(s.Periods)-1]) })
	add(api.ErrOrder, func(s *api.Station) { s.Periods = append([]api.Period{closed(api.MaxMinute)}, s.Periods...) })
	add(api.ErrOrder, func(s *api.Station) { s.Periods = append(s.Periods, closed(0)) })
	add(api.ErrOrder, func(s *api.Station) { s.Name = "00000" })
	l = append(l, fault{api.ErrOrder, func(r *api.Registry, i int) { r.Stations = append(r.Stations, r.Stations[i]) }})
	l = append(l, fault{api.ErrOrder, func(r *api.Registry, i int) { r.Stations = slices.Insert(r.Stations, i, r.Stations[i]) }})
	return l
}

// base returns a registry in which each station but the first and the last one may have any of the faults.
func base() api.Registry {
	return registryOf(
		stationOf(api.Land, "00000", closed(0)),
		stationOf(api.Land, "01234", open(5, first, api.Pressure, 3), open(1000, second)),
		stationOf(api.Buoy, "A0001", open(7, api.Place{}, api.Dew, 1), closed(800)),
		stationOf(api.Ship, "DELTA", open(9, api.Place{}), open(1000, api.Place{}, api.Air, -2)),
		stationOf(api.Land, "ZZZZZ", closed(api.MaxMinute)),
	)
}

// invalid returns, by the error of each, registries that are not valid.
func invalid() map[api.Errno][]api.Registry {
	l := map[api.Errno][]api.Registry{}
	for _, f := range faults() {
		for i := 1; i <= 3; i++ {
			r := base()
			f.change(&r, i)
			l[f.e] = append(l[f.e], r)
		}
	}
	more := full()
	more.Stations = append(more.Stations, stationOf(api.Ship, "ZZZZZ", closed(0)))
	l[api.ErrLimit] = append(l[api.ErrLimit], more, api.Registry{Stations: make([]api.Station, 61)}, api.Registry{Stations: make([]api.Station, 60)})
	return l
}

// P11.1
func TestValidate(t *testing.T) {
	all := []int{1, 1000, 2, -1000, 3, 0, 4, 999, 5, -999, 6, 1, 7, -1, 8, 5, 9, 5, 10, 5, 11, 1000}
	for i, r := range []api.Registry{
		{}, {Stations: []api.Station{}}, example(), full(), base(),
		registryOf(stationOf(api.Land, "AAAAA", open(0, first, all...))),
		registryOf(stationOf(api.Ship, "AAAAA", open(api.MaxMinute, api.Place{}, all...))),
		registryOf(stationOf(api.Buoy, "99999", closed(0), open(1, api.Place{}, all...), closed(2), closed(3), closed(api.MaxMinute))),
		registryOf(stationOf(api.Land, "AAAAA", api.Period{Closed: true, Bias: []api.Reading{}})),
		registryOf(stationOf(api.Land, "9ZZZZ", closed(8)), stationOf(api.Ship, "A0000", closed(8)), stationOf(api.Buoy, "A0001", closed(8))),
	} {
		if e := Validate(r); e != api.OK {
			t.Errorf("Validate of the registry %d = %d", i, e)
		}
	}
	for face := range api.Faces {
		r := registryOf(stationOf(api.Land, "AAAAA", open(0, api.Place{Face: face, A: 838, B: 1, C: 1})))
		if e := Validate(r); e != api.OK {
			t.Errorf("Validate with a place on the face %d = %d", face, e)
		}
	}
}

// P11.1
func TestValidateOfInvalidRegistries(t *testing.T) {
	for want, l := range invalid() {
		for _, r := range l {
			if e := Validate(r); e != want {
				t.Errorf("Validate = %d, not %d, of\n%s", e, want, text(r))
			}
		}
	}
	for kind, l := range badPeriods() {
		for _, p := range l {
			for _, periods := range [][]api.Period{{p}, {closed(0), p}, {p, closed(0)}, {closed(0), closed(1), p, closed(3)}} {
				if e := Validate(registryOf(stationOf(kind, "AAAAA", periods...))); e != api.ErrRange {
					t.Errorf("Validate of the kind %d with %v = %d", kind, periods, e)
				}
			}
		}
	}
}

// P11.1: each limit by itself.
func TestValidateOfLimits(t *testing.T) {
	for n := range 20 {
		s := stationOf(api.Ship, "AAAAA")
		for i := range n {
			s.Periods = append(s.Periods, closed(i))
		}
		want := api.ErrLimit
		if n >= 1 && n <= 8 {
			want = api.OK
		}
		if e := Validate(registryOf(s)); e != want {
			t.Errorf("Validate with %d periods = %d, not %d", n, e, want)
		}
	}
	var r api.Registry
	for n := range 100 {
		want := api.OK
		if n > 60 {
			want = api.ErrLimit
		}
		if e := Validate(r); e != want {
			t.Errorf("Validate with %d stations = %d, not %d", n, e, want)
		}
		r.Stations = append(r.Stations, stationOf(n%3+1, fmt.Sprintf("%05d", n), closed(0)))
	}
}

// P11.1: the first error is that of the whole registry, not that of the first station.
func TestValidateReturnsTheFirstError(t *testing.T) {
	order := []api.Errno{api.ErrLimit, api.ErrKind, api.ErrSyntax, api.ErrRange, api.ErrOrder}
	all := faults()
	for _, f := range all {
		for _, g := range all {
			for _, at := range [][2]int{{1, 3}, {3, 1}, {1, 2}} {
				// What changes the order comes last, because it may change the indices.
				if f.e == api.ErrOrder {
					continue
				}
				r := base()
				f.change(&r, at[0])
				g.change(&r, at[1])
				want := order[min(slices.Index(order, f.e), slices.Index(order, g.e))]
				if e := Validate(r); e != want {
					t.Fatalf("Validate = %d, not %d, of\n%s", e, want, text(r))
				}
			}
		}
	}
	turned := full()
	turned.Stations = append(turned.Stations, stationOf(9, "x"))
	slices.Reverse(turned.Stations)
	if e := Validate(turned); e != api.ErrLimit {
		t.Errorf("Validate of too many stations = %d", e)
	}
}

// P11.1: stations by their names, whatever their kinds are, and periods by From.
func TestValidateOfOrder(t *testing.T) {
	names := []string{"00000", "00009", "0000A", "0000Z", "9ZZZZ", "A0000", "A00Z0", "AA000", "Z9999", "ZZZZZ"}
	for i, a := range names {
		for j, b := range names {
			for kind := api.Land; kind <= api.Buoy; kind++ {
				want := api.ErrOrder
				if i < j {
					want = api.OK
				}
				r := registryOf(stationOf(api.Ship, a, closed(5)), stationOf(kind, b, closed(4)))
				if e := Validate(r); e != want {
					t.Errorf("Validate of %s and %s = %d, not %d", a, b, e, want)
				}
			}
		}
	}
	for _, c := range []struct {
		froms []int
		want  api.Errno
	}{
		{[]int{0, 1, 2, 3}, api.OK}, {[]int{0, 0}, api.ErrOrder}, {[]int{1, 0}, api.ErrOrder}, {[]int{0, 5, 5, 6}, api.ErrOrder},
		{[]int{0, 5, 6, 6}, api.ErrOrder}, {[]int{0, 10, 9, 20}, api.ErrOrder}, {[]int{7, 8, api.MaxMinute, 9}, api.ErrOrder}, {[]int{9, 10, 100, api.MaxMinute}, api.OK},
	} {
		s := stationOf(api.Land, "MMMMM")
		for _, from := range c.froms {
			s.Periods = append(s.Periods, closed(from))
		}
		for _, r := range []api.Registry{registryOf(s), registryOf(stationOf(api.Ship, "AAAAA", closed(99)), s, stationOf(api.Ship, "ZZZZZ", closed(0)))} {
			if e := Validate(r); e != c.want {
				t.Errorf("Validate of periods from %v = %d, not %d", c.froms, e, c.want)
			}
		}
	}
}

// Same looks at all fields.
func TestSame(t *testing.T) {
	same := []api.Registry{{}, example(), full(), base(), registryOf(api.Station{Kind: -1, Name: "x", Periods: []api.Period{{From: -1, Closed: true, Place: inner, Bias: readings(99, 1, 98, 2)}}})}
	for i, a := range same {
		for j, b := range same {
			if got := Same(a, copied(b)); got != (i == j) {
				t.Errorf("Same of the registries %d and %d = %t", i, j, got)
			}
		}
	}
	for i, change := range []func(s *api.Station){
		func(s *api.Station) { s.Kind = api.Ship },
		func(s *api.Station) { s.Name = "01235" },
		func(s *api.Station) { s.Periods = s.Periods[1:] },
		func(s *api.Station) { s.Periods = s.Periods[:3] },
		func(s *api.Station) { s.Periods = nil },
		func(s *api.Station) { s.Periods[0], s.Periods[1] = s.Periods[1], s.Periods[0] },
		func(s *api.Station) { s.Periods[3].From++ },
		func(s *api.Station) { s.Periods[3].Closed = true },
		func(s *api.Station) { s.Periods[2].Closed = false },
		func(s *api.Station) { s.Periods[3].Place.Face++ },
		func(s *api.Station) { s.Periods[3].Place.A++ },
		func(s *api.Station) { s.Periods[3].Place.B++ },
		func(s *api.Station) { s.Periods[3].Place.C++ },
		func(s *api.Station) { s.Periods[3].Bias[1].Element-- },
		func(s *api.Station) { s.Periods[3].Bias[1].Value-- },
		func(s *api.Station) { s.Periods[3].Bias = s.Periods[3].Bias[:1] },
		func(s *api.Station) { s.Periods[3].Bias = s.Periods[3].Bias[1:] },
		func(s *api.Station) { slices.Reverse(s.Periods[3].Bias) },
		func(s *api.Station) { s.Periods[3].Bias = nil },
		func(s *api.Station) { s.Periods[1].Bias = readings(1, 0) },
	} {
		r := example()
		change(&r.Stations[0])
		if Same(r, example()) || Same(example(), r) || !Same(r, copied(r)) {
			t.Errorf("Same with the change %d", i)
		}
	}
	r := example()
	for _, part := range []api.Registry{{Stations: r.Stations[1:]}, {Stations: r.Stations[:4]}} {
		if Same(r, part) || Same(part, r) {
			t.Errorf("Same with a part")
		}
	}
}

// Rule 1: lists that are nil and empty lists are the same.
func TestSameOfEmptyLists(t *testing.T) {
	if !Same(api.Registry{}, api.Registry{Stations: []api.Station{}}) {
		t.Error("no stations")
	}
	if !Same(registryOf(api.Station{}), registryOf(api.Station{Periods: []api.Period{}})) {
		t.Error("no periods")
	}
	if !Same(registryOf(stationOf(1, "A", api.Period{})), registryOf(stationOf(1, "A", api.Period{Bias: []api.Reading{}}))) {
		t.Error("no bias")
	}
}

// randomPeriod returns a period that is valid for a kind.
func randomPeriod(random *rand.Rand, kind int) api.Period {
	from := random.Intn(12)
	if random.Intn(4) == 0 {
		return closed(from)
	}
	p := open(from, api.Place{})
	if kind == api.Land {
		p.Place = []api.Place{first, second, edge, inner}[random.Intn(4)]
	}
	for code := 1; code <= api.MaxElements; code++ {
		if random.Intn(4) == 0 {
			p.Bias = append(p.Bias, api.Reading{Element: code, Value: random.Intn(2001) - 1000})
		}
	}
	return p
}

// randomName returns one of a few names, of which some belong to stations of example.
func randomName(random *rand.Rand) string {
	return []string{"01234", "0ABCD", "A0001", "DELTA", "ZZZZZ", "00000", "M0M0M"}[random.Intn(7)]
}

// randomRegistry returns a valid registry.
func randomRegistry(random *rand.Rand) api.Registry {
	m := model{}
	for range random.Intn(40) {
		name := randomName(random)
		kind := random.Intn(3) + 1
		if s, known := m[name]; known {
			kind = s.kind
		}
		m.set(kind, name, randomPeriod(random, kind))
	}
	return m.registry()
}

// model is a registry for comparisons: stations by name, and their periods by From.
type model map[string]modelStation

type modelStation struct {
	kind    int
	periods map[int]api.Period
}

// modelOf returns the model of a valid registry.
func modelOf(r api.Registry) model {
	m := model{}
	for _, s := range r.Stations {
		m[s.Name] = modelStation{s.Kind, map[int]api.Period{}}
		for _, p := range s.Periods {
			m[s.Name].periods[p.From] = p
		}
	}
	return m
}

// set sets a period that is valid for the kind, unless it cannot be set.
func (m model) set(kind int, name string, p api.Period) api.Errno {
	s, known := m[name]
	if known && s.kind != kind {
		return api.ErrState
	}
	if _, there := s.periods[p.From]; !there && len(s.periods) == 8 || !known && len(m) == 60 {
		return api.ErrLimit
	}
	if !known {
		m[name] = modelStation{kind, map[int]api.Period{}}
	}
	m[name].periods[p.From] = p
	return api.OK
}

func (m model) remove(name string, from int) api.Errno {
	if _, there := m[name].periods[from]; !there {
		return api.ErrMissing
	}
	delete(m[name].periods, from)
	if len(m[name].periods) == 0 {
		delete(m, name)
	}
	return api.OK
}

// at returns the period of a station at a minute, and whether there is one.
func (m model) at(name string, minute int) (api.Period, bool) {
	found := false
	var best api.Period
	for from, p := range m[name].periods {
		if from <= minute && (!found || from > best.From) {
			best, found = p, true
		}
	}
	return best, found
}

func (m model) registry() api.Registry {
	var r api.Registry
	for name, s := range m {
		x := api.Station{Kind: s.kind, Name: name}
		for _, p := range s.periods {
			x.Periods = append(x.Periods, p)
		}
		slices.SortFunc(x.Periods, func(a, b api.Period) int { return a.From - b.From })
		r.Stations = append(r.Stations, x)
	}
	slices.SortFunc(r.Stations, func(a, b api.Station) int {
		if a.Name < b.Name {
			return -1
		}
		return 1
	})
	return r
}
