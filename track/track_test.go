package track

import (
	"math/rand"
	"slices"
	"testing"

	"synoptic/api"
	"synoptic/grid"
	"synoptic/group"
)

const (
	least = -1 << 63
	most  = 1<<63 - 1
	end   = 24 // the hops from the vertex 0 to the vertex 11, which is opposite to it
)

// spot returns a node of the frequency 8 on a way from the vertex 0 to the vertex 11: that many hops from the beginning. Between two of them are as many hops as their numbers differ.
func spot(n int) api.Place {
	switch {
	case n <= 8:
		return api.Place{Face: 0, A: 840 - 105*n, B: 105 * n}
	case n <= 16:
		return api.Place{Face: 5, A: 840 - 105*(n-8), B: 105 * (n - 8)}
	default:
		return api.Place{Face: 15, A: 105 * (n - 16), C: 840 - 105*(n-16)}
	}
}

// seen returns a report of a ship.
func seen(minute int, at api.Place) api.Report {
	return api.Report{Kind: api.Ship, Name: "DELTA", Time: minute, Place: at}
}

// path returns the reports of a ship at spots, given as minutes and spots in turn.
func path(numbers ...int) []api.Report {
	var l []api.Report
	for i := 0; i < len(numbers); i += 2 {
		l = append(l, seen(numbers[i], spot(numbers[i+1])))
	}
	return l
}

// hourly returns the reports of a ship at spots, with an hour between them.
func hourly(spots ...int) []api.Report {
	var l []api.Report
	for i, n := range spots {
		l = append(l, seen(60*i, spot(n)))
	}
	return l
}

// copied returns reports that share no memory with those of a list.
func copied(l []api.Report) []api.Report {
	var all []api.Report
	for _, r := range l {
		r.Readings = append([]api.Reading(nil), r.Readings...)
		all = append(all, r)
	}
	return all
}

// wrongPlaces returns places that are not valid.
func wrongPlaces() []api.Place {
	return []api.Place{
		{}, {Face: 1}, {A: 839}, {A: 841}, {A: 841, B: -1}, {A: -1, B: 421, C: 420}, {A: 420, B: 421, C: -1}, {Face: 20, A: 840}, {Face: -1, A: 840},
		{Face: most, A: 840}, {Face: least, A: 840}, {A: most, B: most, C: 842}, {A: 1 << 62, B: 1 << 62, C: least + 840}, {Face: 1 << 32, A: 840},
	}
}

// wrongTimes returns numbers that are no minutes.
func wrongTimes() []int {
	return []int{-1, api.MaxMinute + 1, 1 << 32, -1 << 32, most, least}
}

// wrongHops returns numbers that are no hops per day.
func wrongHops() []int {
	return []int{-1, 1001, 1<<32 + 1, most, least}
}

// checkPlausible compares Plausible with what is expected.
func checkPlausible(t *testing.T, a, b api.Report, hops int, want bool) {
	t.Helper()
	if got := Plausible(a, b, hops); got != want {
		t.Fatalf("Plausible is %t with %d hops per day for %v and %v", got, hops, a, b)
	}
}

// P12.1: the least minutes in which a way is plausible, worked out by hand.
func TestPlausibleByHand(t *testing.T) {
	for _, c := range []struct{ from, to, hops, minutes int }{
		{0, 0, 0, 1}, {0, 1, 0, 1}, {7, 6, 0, 1}, {24, 24, 0, 1}, {0, 0, 1000, 1}, {0, 1, 1000, 1},
		{0, 2, 24, 60}, {2, 0, 24, 60}, {0, 6, 24, 300}, {10, 15, 24, 240}, {0, 24, 24, 1380}, {24, 0, 24, 1380},
		{0, 2, 1, 1440}, {5, 8, 1, 2880}, {0, 24, 1, 33120},
		{0, 2, 1000, 2}, {0, 3, 1000, 3}, {0, 8, 1000, 11}, {0, 24, 1000, 34}, {24, 0, 1000, 34},
		{3, 5, 7, 206}, {3, 8, 7, 823}, {3, 8, 8, 720},
	} {
		a := seen(5000, spot(c.from))
		checkPlausible(t, a, seen(5000+c.minutes, spot(c.to)), c.hops, true)
		checkPlausible(t, a, seen(5000+c.minutes-1, spot(c.to)), c.hops, false)
		checkPlausible(t, a, seen(5000-c.minutes, spot(c.to)), c.hops, false)
		checkPlausible(t, a, seen(api.MaxMinute, spot(c.to)), c.hops, true)
	}
	for n := 2; n <= end; n++ {
		checkPlausible(t, seen(0, spot(0)), seen(api.MaxMinute, spot(n)), 0, false)
		checkPlausible(t, seen(0, spot(n)), seen(api.MaxMinute, spot(0)), 0, false)
	}
}

// P12.1: between all spots, with as many whole days of hops as there are, and one hop more.
func TestPlausible(t *testing.T) {
	random := rand.New(rand.NewSource(1))
	for a := 0; a <= end; a++ {
		for b := 0; b <= end; b++ {
			hops, minutes := random.Intn(60), random.Intn(3000)-100
			want := minutes > 0 && max(a-b, b-a)-1 <= hops*minutes/1440
			checkPlausible(t, seen(7000, spot(a)), seen(7000+minutes, spot(b)), hops, want)
		}
	}
}

// P12.1: the second Time is greater.
func TestPlausibleForwards(t *testing.T) {
	for _, hops := range []int{0, 1, 24, 1000} {
		for _, minute := range []int{0, 1, 1439, 1440, api.MaxMinute} {
			checkPlausible(t, seen(minute, spot(3)), seen(minute, spot(3)), hops, false)
			checkPlausible(t, seen(minute, spot(3)), seen(minute, spot(4)), hops, false)
			if minute > 0 {
				checkPlausible(t, seen(minute, spot(3)), seen(minute-1, spot(3)), hops, false)
				checkPlausible(t, seen(minute-1, spot(3)), seen(minute, spot(3)), hops, true)
				checkPlausible(t, seen(0, spot(3)), seen(minute, spot(4)), hops, true)
			}
		}
	}
}

// checkWay checks that so many hops lead from one place to another, as far as Plausible tells: 0 hops and 1 are the same to it.
func checkWay(t *testing.T, from, to api.Place, hops int) {
	t.Helper()
	start := 10000
	if hops <= 1 {
		checkPlausible(t, seen(start, from), seen(start+1, to), 0, true)
		return
	}
	checkPlausible(t, seen(start, from), seen(start+60*(hops-1), to), 24, true)
	checkPlausible(t, seen(start, from), seen(start+60*(hops-1)-1, to), 24, false)
}

// P12.1: the nodes are the nearest ones, and the lesser one of two that are equally near.
func TestPlausibleByNearestNodes(t *testing.T) {
	for _, c := range []struct {
		at   api.Place
		hops int
	}{
		{api.Place{Face: 0, A: 788, B: 52}, 0}, {api.Place{Face: 0, A: 787, B: 53}, 1}, {api.Place{Face: 0, A: 787, B: 52, C: 1}, 1},
		{api.Place{Face: 0, A: 683, B: 157}, 1}, {api.Place{Face: 0, A: 682, B: 158}, 2}, {api.Place{Face: 0, A: 682, B: 157, C: 1}, 2},
		{api.Place{Face: 0, A: 578, B: 262}, 2}, {api.Place{Face: 0, A: 577, B: 263}, 3}, {api.Place{Face: 2, A: 577, C: 263}, 3},
		{api.Place{Face: 3, A: 770, B: 35, C: 35}, 0}, {api.Place{Face: 3, A: 769, B: 35, C: 36}, 1}, {api.Place{Face: 3, A: 700, B: 70, C: 70}, 1}, {api.Place{Face: 3, A: 699, B: 70, C: 71}, 2},
		{api.Place{Face: 5, A: 788, B: 52}, 8}, {api.Place{Face: 5, A: 787, B: 53}, 9}, {api.Place{Face: 5, A: 787, B: 52, C: 1}, 8},
		{api.Place{Face: 17, A: 788, B: 26, C: 26}, 24}, {api.Place{Face: 17, A: 735, B: 53, C: 52}, 23},
	} {
		checkWay(t, spot(0), c.at, c.hops)
		checkWay(t, c.at, spot(0), c.hops)
		checkWay(t, spot(end), c.at, end-c.hops)
		checkWay(t, c.at, spot(end), end-c.hops)
	}
}

// P12.1: any places, by the hops between their nodes.
func TestPlausibleOfAnyPlaces(t *testing.T) {
	random := rand.New(rand.NewSource(4))
	anywhere := func() api.Place {
		a := random.Intn(841)
		b := random.Intn(841 - a)
		return api.Place{Face: random.Intn(20), A: a, B: b, C: 840 - a - b}
	}
	for range 500 {
		from, to := anywhere(), anywhere()
		a, _ := grid.Nearest(8, from)
		b, _ := grid.Nearest(8, to)
		hops, e := grid.Hops(8, a, b)
		if e != api.OK {
			t.Fatalf("Hops(8, %d, %d) = %d", a, b, e)
		}
		checkWay(t, from, to, hops)
	}
}

// P12.1: places, times and hops that are not valid, of each report.
func TestPlausibleOfInvalidArguments(t *testing.T) {
	a, b := seen(100, spot(4)), seen(200, spot(4))
	checkPlausible(t, a, b, 24, true)
	for _, p := range wrongPlaces() {
		checkPlausible(t, seen(100, p), b, 24, false)
		checkPlausible(t, a, seen(200, p), 24, false)
		checkPlausible(t, seen(100, p), seen(200, p), 24, false)
	}
	for _, n := range wrongTimes() {
		checkPlausible(t, seen(n, spot(4)), b, 24, false)
		checkPlausible(t, a, seen(n, spot(4)), 24, false)
	}
	checkPlausible(t, seen(-2, spot(4)), seen(-1, spot(4)), 24, false)
	checkPlausible(t, seen(api.MaxMinute+1, spot(4)), seen(api.MaxMinute+2, spot(4)), 24, false)
	for _, hops := range wrongHops() {
		checkPlausible(t, a, b, hops, false)
	}
	for _, hops := range []int{0, 1, 999, 1000} {
		checkPlausible(t, a, b, hops, true)
		checkPlausible(t, seen(0, spot(4)), seen(api.MaxMinute, spot(4)), hops, true)
	}
}

// P12.1: other fields do not matter, and neither does the address of a place.
func TestPlausibleOfAnyReports(t *testing.T) {
	a, b := seen(100, spot(0)), seen(220, spot(3))
	for _, kind := range []int{api.Land, api.Buoy, 0, 4, -1, most, least} {
		for _, name := range []string{"", "DELTA", "ZZZZZ", "no name at all"} {
			a.Kind, a.Name = kind, name
			a.Readings = []api.Reading{{Element: 99}, {Element: 1, Value: -1}}
			checkPlausible(t, a, b, 24, true)
			checkPlausible(t, a, seen(219, spot(3)), 24, false)
			back := a
			back.Time = 340
			checkPlausible(t, b, back, 24, true)
			back.Time = 339
			checkPlausible(t, b, back, 24, false)
		}
	}
	for face := range 5 {
		checkPlausible(t, seen(0, api.Place{Face: face, A: 840}), seen(120, spot(3)), 24, true)
		checkPlausible(t, seen(0, spot(3)), seen(119, api.Place{Face: face, A: 840}), 24, false)
		checkPlausible(t, seen(0, spot(3)), seen(120, api.Place{Face: face, A: 840}), 24, true)
	}
}

// checkChain compares what Chain returns with what is expected.
func checkChain(t *testing.T, l []api.Report, hops int, want ...int) {
	t.Helper()
	before := copied(l)
	got, e := Chain(l, hops)
	if e != api.OK || !slices.Equal(got, want) {
		t.Fatalf("Chain with %d hops per day = %v, %d, not %v, of %v", hops, got, e, want, l)
	}
	if !slices.EqualFunc(l, before, group.Same) {
		t.Fatalf("Chain changed its argument %v to %v", before, l)
	}
}

// checkChainError checks that Chain has an error and no chain.
func checkChainError(t *testing.T, l []api.Report, hops int, want api.Errno) {
	t.Helper()
	if got, e := Chain(l, hops); e != want || len(got) != 0 {
		t.Fatalf("Chain with %d hops per day = %v, %d, not the error %d, of %v", hops, got, e, want, l)
	}
}

// P12.2: the examples of the chapter, and other chains by hand.
func TestChainByHand(t *testing.T) {
	checkChain(t, hourly(3, 8, 3), 24, 0, 2)
	checkChain(t, hourly(3, 8), 24, 0)
	checkChain(t, nil, 24)
	checkChain(t, []api.Report{}, 0)
	checkChain(t, hourly(24), 0, 0)
	checkChain(t, hourly(0, 2, 4, 6, 8), 24, 0, 1, 2, 3, 4)
	checkChain(t, hourly(9, 9, 9, 9), 0, 0, 1, 2, 3)
	checkChain(t, path(0, 5, api.MaxMinute, 5), 1000, 0, 1)
	// The first report is the one that is wrong.
	checkChain(t, hourly(20, 2, 3, 4), 24, 1, 2, 3)
	checkChain(t, hourly(20, 2, 20, 3, 4), 24, 1, 3, 4)
	// The longest chain leaves out the report that a shorter one would take first.
	checkChain(t, hourly(0, 10, 1, 12, 2, 13), 24, 0, 2, 4)
	checkChain(t, hourly(0, 10, 1, 12, 14, 15), 24, 1, 3, 4, 5)
	// What is plausible over some minutes need not be in two parts.
	checkChain(t, path(0, 0, 59, 2, 60, 2), 24, 0, 2)
	checkChain(t, path(0, 0, 61, 0, 120, 3), 24, 0, 1)
	checkChain(t, path(0, 0, 10, 1, 20, 2, 30, 3), 0, 0, 1, 2, 3)
	checkChain(t, path(0, 0, 10, 2, 20, 1), 0, 0, 2)
}

// P12.2: of several longest chains the least one.
func TestChainIsTheLeast(t *testing.T) {
	checkChain(t, hourly(0, 12), 1, 0)
	checkChain(t, hourly(0, 12, 24), 1, 0)
	checkChain(t, hourly(0, 12, 0, 12), 1, 0, 2)
	checkChain(t, hourly(0, 12, 12, 0), 1, 0, 3)
	checkChain(t, hourly(12, 0, 0, 12), 1, 0, 3)
	checkChain(t, hourly(0, 12, 24, 24, 12, 0), 1, 0, 5)
	checkChain(t, hourly(6, 0, 12, 6), 1, 0, 3)
	checkChain(t, hourly(5, 0, 10, 5, 0, 10), 1, 0, 3)
	checkChain(t, hourly(1, 0, 2, 1), 0, 0, 1, 3)
	checkChain(t, hourly(2, 2, 8, 4, 4), 24, 0, 1, 3, 4)
	checkChain(t, hourly(2, 7, 1, 3, 8, 2), 1, 0, 2, 5)
	checkChain(t, hourly(20, 20, 4, 4, 8, 8), 1, 0, 1)
	checkChain(t, hourly(20, 4, 4, 20, 8, 8), 1, 0, 3)
	checkChain(t, hourly(20, 4, 4, 8, 8, 21), 1, 0, 5)
}

// P12.2: a list of MaxChain reports, of which all, some or few are in the chain.
func TestChainOfManyReports(t *testing.T) {
	var all, still, jumps, apart []api.Report
	for i := range api.MaxChain {
		all = append(all, seen(60*i, spot(min(i, 24))))
		still = append(still, seen(i, spot(7)))
		jumps = append(jumps, seen(60*i, spot(i%2*24)))
		apart = append(apart, seen(i, spot(i%12*2)))
	}
	every := make([]int, api.MaxChain)
	even := make([]int, api.MaxChain/2)
	for i := range every {
		every[i] = i
		even[i/2] = i / 2 * 2
	}
	checkChain(t, all, 24, every...)
	checkChain(t, still, 0, every...)
	checkChain(t, jumps, 24, even...)
	checkChain(t, jumps, 1000, every...)
	checkChain(t, apart, 0, 0, 12, 24)
	checkChainError(t, append(still, seen(30, spot(7))), 0, api.ErrLimit)
}

// P12.2: kinds, names and readings do not matter.
func TestChainOfAnyReports(t *testing.T) {
	l := hourly(1, 20, 3, 5)
	for i, kind := range []int{api.Land, 0, -7, most} {
		l[i].Kind, l[i].Name = kind, []string{"", "AAAAA", "not a name", "AAAAA"}[i]
		l[i].Readings = []api.Reading{{Element: 77, Value: i}, {Element: 1}}
	}
	checkChain(t, l, 24, 0, 2, 3)
}

// P12.2: each error by itself.
func TestChainOfInvalidArguments(t *testing.T) {
	for _, hops := range wrongHops() {
		for _, l := range [][]api.Report{nil, hourly(1), hourly(1, 2, 3)} {
			checkChainError(t, l, hops, api.ErrRange)
		}
	}
	for i := range 4 {
		for _, p := range wrongPlaces() {
			l := hourly(1, 2, 3, 4)
			l[i].Place = p
			checkChainError(t, l, 24, api.ErrRange)
			checkChainError(t, l[i:i+1], 24, api.ErrRange)
		}
		for _, n := range wrongTimes() {
			l := hourly(1, 2, 3, 4)
			l[i].Time = n
			checkChainError(t, l, 24, api.ErrRange)
			checkChainError(t, l[i:i+1], 24, api.ErrRange)
		}
	}
	for _, minutes := range [][]int{{0, 0}, {1, 0}, {5, 6, 6}, {5, 5, 6}, {5, 7, 6}, {5, 6, 7, 5}, {api.MaxMinute, 0}, {2, 1, 0}, {0, 1, 2, 3, 3}} {
		var l []api.Report
		for _, n := range minutes {
			l = append(l, seen(n, spot(3)))
		}
		checkChainError(t, l, 24, api.ErrOrder)
		checkChainError(t, l, 0, api.ErrOrder)
	}
}

// P12.2: ErrLimit comes before ErrRange, and this before ErrOrder, wherever they are.
func TestChainReturnsTheFirstError(t *testing.T) {
	checkChainError(t, make([]api.Report, 31), -1, api.ErrLimit)
	checkChainError(t, make([]api.Report, 200), 24, api.ErrLimit)
	checkChainError(t, make([]api.Report, 30), 24, api.ErrRange)
	for i := range 5 {
		turned := path(50, 1, 40, 1, 30, 1, 20, 1, 10, 1)
		checkChainError(t, turned, -1, api.ErrRange)
		turned[i].Place = api.Place{}
		checkChainError(t, turned, 24, api.ErrRange)
		same := path(9, 1, 9, 1, 9, 1, 9, 1, 9, 1)
		same[i].Time = -1
		checkChainError(t, same, 24, api.ErrRange)
	}
}

// stretch is a report of a test: its minute, and its spot on the way from the vertex 0 to the vertex 11.
type stretch struct{ minute, spot int }

// bestChain looks at all lists of indices, as sets of bits, for the least one of the longest chains.
func bestChain(l []stretch, hops int) []int {
	var best []int
	for set := range 1 << len(l) {
		var found []int
		good := true
		for i := range l {
			if set>>i&1 == 0 {
				continue
			}
			if len(found) > 0 {
				a, b := l[found[len(found)-1]], l[i]
				good = good && max(a.spot-b.spot, b.spot-a.spot)-1 <= hops*(b.minute-a.minute)/1440
			}
			found = append(found, i)
		}
		if good && (len(found) > len(best) || len(found) == len(best) && slices.Compare(found, best) < 0) {
			best = found
		}
	}
	return best
}

// randomWay returns stretches with ascending minutes and few spots, so that many chains are equally long.
func randomWay(random *rand.Rand) []stretch {
	var l []stretch
	minute, width := random.Intn(100), random.Intn(8)+1
	for range random.Intn(10) {
		l = append(l, stretch{minute, random.Intn(width) * 24 / width})
		minute += random.Intn(90) + 1
	}
	return l
}

// reportsOf returns a report of a ship for each stretch.
func reportsOf(l []stretch) []api.Report {
	var all []api.Report
	for _, s := range l {
		all = append(all, seen(s.minute, spot(s.spot)))
	}
	return all
}

// P12.2: against all lists of indices.
func TestChain(t *testing.T) {
	random := rand.New(rand.NewSource(2))
	for range 400 {
		l := randomWay(random)
		hops := []int{0, 1, 24, 100, 300, 1000}[random.Intn(6)]
		checkChain(t, reportsOf(l), hops, bestChain(l, hops)...)
	}
}

// The consequence: more hops per day never make the chain shorter.
func TestMoreHopsGiveNoShorterChain(t *testing.T) {
	random := rand.New(rand.NewSource(3))
	for range 30 {
		l := reportsOf(randomWay(random))
		before := 0
		for _, hops := range []int{0, 1, 12, 24, 60, 120, 300, 999, 1000} {
			got, e := Chain(l, hops)
			if e != api.OK || len(got) < before {
				t.Fatalf("Chain with %d hops per day = %v, %d, shorter than %d, of %v", hops, got, e, before, l)
			}
			before = len(got)
		}
	}
}

// Rule 2: results are new memory.
func TestChainIsNew(t *testing.T) {
	l := hourly(1, 2, 3)
	first, _ := Chain(l, 24)
	clear(first)
	checkChain(t, l, 24, 0, 1, 2)
}
