package track

import (
	"fmt"
	"maps"
	"math/rand"
	"slices"
	"testing"

	"synoptic/api"
	"synoptic/group"
)

// of returns the reports of a list as those of a station.
func of(kind int, name string, l []api.Report) []api.Report {
	all := copied(l)
	for i := range all {
		all[i].Kind, all[i].Name = kind, name
	}
	return all
}

// checkSuspects compares what Suspects returns with what is expected.
func checkSuspects(t *testing.T, l []api.Report, hops int, want ...int) {
	t.Helper()
	before := copied(l)
	got, e := Suspects(l, hops)
	if e != api.OK || !slices.Equal(got, want) {
		t.Fatalf("Suspects with %d hops per day = %v, %d, not %v, of %v", hops, got, e, want, l)
	}
	if !slices.EqualFunc(l, before, group.Same) {
		t.Fatalf("Suspects changed its argument %v to %v", before, l)
	}
}

// checkSuspectsError checks that Suspects has an error and no suspects.
func checkSuspectsError(t *testing.T, l []api.Report, hops int, want api.Errno) {
	t.Helper()
	if got, e := Suspects(l, hops); e != want || len(got) != 0 {
		t.Fatalf("Suspects with %d hops per day = %v, %d, not the error %d, of %v", hops, got, e, want, l)
	}
}

// P12.3: the examples of the chapter, and other lists by hand.
func TestSuspectsByHand(t *testing.T) {
	for _, kind := range []int{api.Ship, api.Buoy} {
		list := func(spots ...int) []api.Report { return of(kind, "A0001", hourly(spots...)) }
		checkSuspects(t, list(3, 8, 3), 24, 1)
		checkSuspects(t, list(3, 8), 24, 1)
		checkSuspects(t, list(20, 2, 3, 4), 24, 0)
		checkSuspects(t, list(20, 2, 20, 3, 4), 24, 0, 2)
		checkSuspects(t, list(0, 10, 1, 12, 2, 13), 24, 1, 3, 5)
		checkSuspects(t, list(0, 12, 12, 0), 1, 1, 2)
		checkSuspects(t, list(0, 12, 24), 1, 1, 2)
		checkSuspects(t, list(0, 2, 4, 6), 24)
		checkSuspects(t, list(7), 0)
	}
	checkSuspects(t, nil, 24)
	checkSuspects(t, []api.Report{}, 0)
}

// P12.3: in ascending order of Time, whatever the order of the list is.
func TestSuspectsInOrderOfTime(t *testing.T) {
	checkSuspects(t, path(120, 3, 60, 8, 0, 3), 24, 1)
	checkSuspects(t, path(60, 8, 0, 3), 24, 0)
	checkSuspects(t, path(60, 8, 120, 3, 0, 3), 24, 0)
	checkSuspects(t, path(240, 4, 0, 20, 180, 3, 60, 2, 120, 20), 24, 1, 4)
	// The least chain is that of the least times, not that of the least indices.
	checkSuspects(t, path(120, 24, 60, 12, 0, 0), 1, 0, 1)
	checkSuspects(t, path(60, 12, 180, 0, 0, 0, 120, 12), 1, 0, 3)
}

// P12.3: each Name by itself, where ships and buoys of a Name belong together.
func TestSuspectsByName(t *testing.T) {
	l := append(of(api.Ship, "AAAAA", hourly(3, 8, 3)), of(api.Buoy, "BBBBB", hourly(20, 2, 3))...)
	l = append(l, of(api.Ship, "AAAAB", hourly(12, 12, 12))...)
	checkSuspects(t, l, 24, 1, 3)
	both := hourly(3, 8, 3, 3)
	both[1].Kind = api.Buoy
	checkSuspects(t, both, 24, 1)
	both[2].Kind = api.Buoy
	checkSuspects(t, both, 24, 1)
	both[1].Name, both[2].Name = "OTHER", "OTHER"
	checkSuspects(t, both, 24, 2)
	// Names need not be valid, and every byte counts.
	names := append(of(api.Ship, "", hourly(1, 1)), of(api.Ship, " ", hourly(9, 9))...)
	names = append(names, of(api.Buoy, "a long name", hourly(5, 15))...)
	checkSuspects(t, append(names, of(api.Buoy, "a long nama", hourly(15, 5))...), 24, 5, 7)
	// The indices are ascending over all names.
	mixed := path(0, 1, 0, 20, 60, 12, 60, 12, 120, 1, 120, 20)
	for i := range mixed {
		mixed[i].Name = []string{"ZZZZZ", "AAAAA"}[i%2]
	}
	checkSuspects(t, mixed, 1, 2, 3)
}

// P12.3: reports of Land, and of kinds that do not exist, are not looked at at all.
func TestSuspectsWithoutLand(t *testing.T) {
	for _, kind := range []int{api.Land, 0, 4, -1, 1<<32 + 2, most, least} {
		checkSuspects(t, of(kind, "DELTA", hourly(3, 8, 3, 20)), 0)
		l := hourly(3, 20, 8, 20, 3)
		l[1].Kind, l[3].Kind = kind, kind
		checkSuspects(t, l, 24, 2)
		for _, p := range wrongPlaces() {
			l[1].Place = p
			checkSuspects(t, l, 24, 2)
		}
		for _, n := range wrongTimes() {
			l[3].Time = n
			checkSuspects(t, l, 24, 2)
		}
		// Neither their number nor their times matter.
		many := hourly(3, 8, 3)
		for i := range 100 {
			many = append(many, api.Report{Kind: kind, Name: "DELTA", Time: i % 2 * 60})
		}
		checkSuspects(t, many, 24, 1)
		checkSuspectsError(t, of(kind, "DELTA", hourly(1)), 1001, api.ErrRange)
	}
}

// P12.3: each error by itself, for ships and for buoys.
func TestSuspectsOfInvalidArguments(t *testing.T) {
	for _, hops := range wrongHops() {
		for _, l := range [][]api.Report{nil, hourly(1), hourly(1, 2, 3), of(api.Buoy, "A0001", hourly(1))} {
			checkSuspectsError(t, l, hops, api.ErrRange)
		}
	}
	for i := range 4 {
		for _, kind := range []int{api.Ship, api.Buoy} {
			for _, p := range wrongPlaces() {
				l := of(kind, "A0001", hourly(1, 2, 3, 4))
				l[i].Place = p
				checkSuspectsError(t, l, 24, api.ErrRange)
			}
			for _, n := range wrongTimes() {
				l := of(kind, "A0001", hourly(1, 2, 3, 4))
				l[i].Time = n
				checkSuspectsError(t, l, 24, api.ErrRange)
			}
			for j := range i {
				l := of(kind, "A0001", hourly(1, 2, 3, 4))
				l[i].Time = l[j].Time
				checkSuspectsError(t, l, 24, api.ErrDuplicate)
				l[j].Kind = api.Ship + api.Buoy - kind
				checkSuspectsError(t, l, 24, api.ErrDuplicate)
				l[i].Place, l[j].Place = spot(1), spot(1)
				checkSuspectsError(t, l, 24, api.ErrDuplicate)
				l[j].Name = "A0002"
				checkSuspects(t, l, 1000)
				l[j].Name, l[j].Kind = "A0001", api.Land
				checkSuspects(t, l, 1000)
			}
		}
	}
}

// still returns n reports of a ship that does not move.
func still(name string, n int) []api.Report {
	var l []api.Report
	for i := range n {
		l = append(l, seen(i, spot(7)))
	}
	return of(api.Ship, name, l)
}

// P12.3: MaxChain reports of a Name, however many there are of other names.
func TestSuspectsOfManyReports(t *testing.T) {
	var l []api.Report
	for i := range 7 {
		l = append(l, still(fmt.Sprintf("%05d", i), 30)...)
	}
	checkSuspects(t, l, 24)
	l[17].Place = spot(9)
	checkSuspects(t, l, 24, 17)
	for i := range 7 {
		more := append(copied(l), of(api.Buoy, fmt.Sprintf("%05d", i), path(500, 7))...)
		checkSuspectsError(t, more, 24, api.ErrLimit)
		more[len(more)-1].Kind = api.Land
		checkSuspects(t, more, 24, 17)
	}
	checkSuspectsError(t, still("DELTA", 31), 24, api.ErrLimit)
	checkSuspectsError(t, still("DELTA", 90), 24, api.ErrLimit)
}

// P12.3: ErrRange comes before ErrDuplicate, and this before ErrLimit, for all names together.
func TestSuspectsReturnsTheFirstError(t *testing.T) {
	for _, names := range [][2]string{{"AAAAA", "ZZZZZ"}, {"ZZZZZ", "AAAAA"}, {"AAAAA", "AAAAA"}} {
		wrong := of(api.Buoy, names[0], path(900, 1))
		twice := of(api.Ship, names[1], path(800, 1, 800, 1))
		many := still(names[0], 31)
		for _, l := range [][]api.Report{slices.Concat(twice, many), slices.Concat(many, twice), slices.Concat(twice, many[:30]), slices.Concat(many[:30], twice)} {
			checkSuspectsError(t, l, 24, api.ErrDuplicate)
			checkSuspectsError(t, l, -1, api.ErrRange)
			for _, x := range []api.Report{seen(7, api.Place{}), seen(-1, spot(1)), seen(api.MaxMinute+1, spot(1))} {
				wrong[0].Place, wrong[0].Time = x.Place, x.Time
				checkSuspectsError(t, slices.Concat(wrong, l), 24, api.ErrRange)
				checkSuspectsError(t, slices.Concat(l, wrong), 24, api.ErrRange)
			}
		}
		checkSuspectsError(t, many, -1, api.ErrRange)
		many[30].Place = api.Place{}
		checkSuspectsError(t, many, 24, api.ErrRange)
	}
	doubled := slices.Concat(still("DELTA", 30), still("DELTA", 30))
	checkSuspectsError(t, doubled, 24, api.ErrDuplicate)
}

// entry is a report of a test: a stretch of a station.
type entry struct {
	kind int
	name string
	stretch
}

// randomEntries returns entries of a few stations in any order.
func randomEntries(random *rand.Rand) []entry {
	var l []entry
	for _, name := range []string{"AAAAA", "MMMMM", "ZZZZZ"} {
		for _, s := range randomWay(random) {
			l = append(l, entry{random.Intn(2) + api.Ship, name, s})
		}
	}
	for range random.Intn(4) {
		l = append(l, entry{api.Land, "MMMMM", stretch{random.Intn(100), random.Intn(25)}})
	}
	random.Shuffle(len(l), func(i, j int) { l[i], l[j] = l[j], l[i] })
	return l
}

// suspectEntries finds the suspects by the best chain of each name.
func suspectEntries(l []entry, hops int) []int {
	found := map[int]bool{}
	for _, name := range []string{"AAAAA", "MMMMM", "ZZZZZ"} {
		var own []int
		for i, x := range l {
			if x.name == name && x.kind != api.Land {
				own = append(own, i)
			}
		}
		slices.SortFunc(own, func(i, j int) int { return l[i].minute - l[j].minute })
		var way []stretch
		for _, i := range own {
			way = append(way, l[i].stretch)
			found[i] = true
		}
		for _, k := range bestChain(way, hops) {
			delete(found, own[k])
		}
	}
	return slices.Sorted(maps.Keys(found))
}

// P12.3: against chains by all lists of indices; and the consequence, that the order of the list does not matter.
func TestSuspects(t *testing.T) {
	random := rand.New(rand.NewSource(5))
	for range 150 {
		entries := randomEntries(random)
		hops := []int{0, 1, 24, 100, 300, 1000}[random.Intn(6)]
		var l []api.Report
		for _, x := range entries {
			l = append(l, api.Report{Kind: x.kind, Name: x.name, Time: x.minute, Place: spot(x.spot)})
		}
		want := suspectEntries(entries, hops)
		checkSuspects(t, l, hops, want...)
		slices.Reverse(l)
		var turned []int
		for _, i := range slices.Backward(want) {
			turned = append(turned, len(l)-1-i)
		}
		checkSuspects(t, l, hops, turned...)
	}
}

// The consequence: reports that do not move are never suspect.
func TestReportsThatDoNotMove(t *testing.T) {
	for face := range 20 {
		at := api.Place{Face: face, A: 101, B: 333, C: 406}
		var l []api.Report
		for i := range 30 {
			l = append(l, seen(i*i*50000, at))
		}
		checkSuspects(t, l, 0)
		checkSuspects(t, l, 1000)
	}
}
