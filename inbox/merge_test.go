package inbox

import (
	"math/rand"
	"slices"
	"testing"

	"synoptic/api"
	"synoptic/group"
)

// always is a window to which all times and arrivals belong.
var always = api.Window{From: 0, To: api.MaxMinute, Cutoff: api.MaxMinute}

func merged(versions int, r api.Report, contradicted ...int) api.Merged {
	return api.Merged{Report: r, Versions: versions, Contradicted: contradicted}
}

func equalMerged(a, b api.Merged) bool {
	return group.Same(a.Report, b.Report) && a.Versions == b.Versions && slices.Equal(a.Contradicted, b.Contradicted)
}

// checkMerge compares what items are merged to with what is expected.
func checkMerge(t *testing.T, items []api.Item, w api.Window, want ...api.Merged) {
	t.Helper()
	got, e := Merge(sorted(items), w)
	if e != api.OK || !slices.EqualFunc(got, want, equalMerged) {
		t.Fatalf("Merge(%v, %v) = %v, %d, not %v", sorted(items), w, got, e, want)
	}
}

// P10.3: the examples of the chapter.
func TestMergeExamples(t *testing.T) {
	items := []api.Item{item(land(1, 10132, 2, 2800), 0, 1005), item(land(2, 2810), 0, 1010)}
	checkMerge(t, items, always, merged(2, land(1, 10132), 2))
	items = append(items, item(land(2, 2805), 1, 1020))
	checkMerge(t, items, always, merged(1, land(2, 2805)))
	checkMerge(t, items, api.Window{From: 0, To: 2000, Cutoff: 1019}, merged(2, land(1, 10132), 2))
}

// P10.3
func TestMergeOfNothing(t *testing.T) {
	for _, l := range [][]api.Item{nil, {}} {
		for _, w := range []api.Window{{}, always, {From: least, To: most, Cutoff: most}} {
			if got, e := Merge(l, w); len(got) != 0 || e != api.OK {
				t.Errorf("Merge(%v, %v) = %v, %d", l, w, got, e)
			}
		}
	}
}

// P10.3
func TestMergeOfOneVersion(t *testing.T) {
	for _, r := range []api.Report{land(), land(11, 2500), ship(4), ship(5, 1, 10132, 2, 2800, 4, -57), report(api.Buoy, "00000", 0, api.Place{C: 840}, 5, 0)} {
		for _, correction := range []int{0, 1, 26} {
			checkMerge(t, []api.Item{item(r, correction, 0)}, always, merged(1, r))
		}
	}
}

// P10.3: for each element, the value of those that have it.
func TestMergeOfReadings(t *testing.T) {
	for _, c := range []struct {
		reports []api.Report
		want    api.Merged
	}{
		{[]api.Report{land(1, 10000), land(2, 2800)}, merged(2, land(1, 10000, 2, 2800))},
		{[]api.Report{land(), land(2, 2800)}, merged(2, land(2, 2800))},
		{[]api.Report{land(2, 2800), land(2, 2800, 11, 2000)}, merged(2, land(2, 2800, 11, 2000))},
		{[]api.Report{land(2, 2800), land(2, 2801)}, merged(2, land(), 2)},
		{[]api.Report{land(2, 2800), land(2, 2801), land(2, 2802)}, merged(3, land(), 2)},
		{[]api.Report{land(2, 2800), land(2, 2801), land(2, 2801, 3, 2700)}, merged(3, land(3, 2700), 2)},
		{[]api.Report{land(2, 2800), land(2, 2800, 3, 2700), land(2, 2801)}, merged(3, land(3, 2700), 2)},
		{[]api.Report{land(1, 10000, 11, 2000), land(), land(11, 2001)}, merged(3, land(1, 10000), 11)},
		{[]api.Report{land(4, -57, 5, 0), land(4, 57, 5, 0)}, merged(2, land(5, 0), 4)},
		{[]api.Report{land(4, 0), land(4, 1)}, merged(2, land(), 4)},
		{[]api.Report{land(1, 10000, 3, 2700, 6, 1000, 10, 5000), land(1, 10001, 3, 2700, 6, 1001, 10, 5001)}, merged(2, land(3, 2700), 1, 6, 10)},
		{[]api.Report{land(10, 5000), land(1, 10000, 9, 2500), land(9, 2501, 10, 5001), land(1, 10000, 2, 2800)}, merged(4, land(1, 10000, 2, 2800), 9, 10)},
	} {
		var items []api.Item
		for i, r := range c.reports {
			items = append(items, item(r, 3, 10+i))
		}
		checkMerge(t, items, always, c.want)
		for i, r := range c.reports {
			items[i] = item(r, 3, 10)
		}
		checkMerge(t, items, always, c.want)
	}
}

// P10.3
func TestMergeOfPlaces(t *testing.T) {
	nowhere := func(r api.Report) api.Report {
		r.Place = api.Place{}
		return r
	}
	for _, places := range [][2]api.Place{
		{{Face: 4, A: 1, B: 1, C: 838}, {Face: 5, A: 1, B: 1, C: 838}},
		{{Face: 4, A: 1, B: 1, C: 838}, {Face: 4, A: 2, B: 1, C: 837}},
		{{Face: 4, A: 1, B: 1, C: 838}, {Face: 4, A: 1, B: 2, C: 837}},
		{{Face: 4, A: 1, B: 2, C: 837}, {Face: 4, A: 2, B: 1, C: 837}},
	} {
		a, b := ship(0, 1, 10132), ship(0, 1, 10132, 4, -57)
		a.Place, b.Place = places[0], places[1]
		checkMerge(t, []api.Item{item(a, 0, 5), item(b, 0, 6)}, always, merged(2, nowhere(b), 0))
		checkMerge(t, []api.Item{item(a, 0, 6), item(b, 0, 5)}, always, merged(2, nowhere(b), 0))
		checkMerge(t, []api.Item{item(a, 0, 6), item(a, 0, 7), item(b, 0, 8)}, always, merged(3, nowhere(b), 0))
		checkMerge(t, []api.Item{item(a, 0, 5), item(b, 0, 6), item(a, 0, 7)}, always, merged(3, nowhere(b), 0))
		checkMerge(t, []api.Item{item(a, 0, 6), item(b, 1, 6)}, always, merged(1, b))
		b.Readings = []api.Reading{{Element: 1, Value: 10131}, {Element: 2, Value: 2800}}
		checkMerge(t, []api.Item{item(a, 0, 5), item(b, 0, 5)}, always, merged(2, nowhere(ship(0, 2, 2800)), 0, 1))
	}
	same := []api.Item{item(ship(7, 1, 10132), 0, 5), item(ship(7, 2, 2800), 0, 6), item(ship(7), 0, 7)}
	checkMerge(t, same, always, merged(3, ship(7, 1, 10132, 2, 2800)))
}

// P10.3: the same report at several minutes, or with several corrections, is several versions.
func TestMergeCountsVersions(t *testing.T) {
	r := land(2, 2800)
	items := []api.Item{item(r, 0, 5), item(r, 0, 6), item(r, 0, 7), item(r, 0, 7), item(r, 1, 8), item(r, 1, 9), item(r, 5, 10)}
	for cutoff, want := range map[int]int{5: 1, 6: 2, 7: 3, 8: 1, 9: 2, 10: 1, most: 1} {
		checkMerge(t, items, api.Window{From: 1000, To: 1000, Cutoff: cutoff}, merged(want, r))
	}
}

// P10.3: up to the cut-off, the versions with the greatest correction count.
func TestMergeOfCorrections(t *testing.T) {
	items := []api.Item{
		item(land(1, 10000), 0, 30),
		item(land(1, 10001), 1, 20),
		item(land(1, 10002), 1, 25),
		item(land(1, 10003), 2, 40),
		item(land(1, 10004), 10, 10),
		item(land(1, 10005), 26, 50),
		item(land(), 9, 5),
	}
	for _, c := range []struct {
		cutoff int
		want   []api.Merged
	}{
		{least, nil}, {-1, nil}, {4, nil},
		{5, []api.Merged{merged(1, land())}},
		{9, []api.Merged{merged(1, land())}},
		{10, []api.Merged{merged(1, land(1, 10004))}},
		{49, []api.Merged{merged(1, land(1, 10004))}},
		{50, []api.Merged{merged(1, land(1, 10005))}},
		{most, []api.Merged{merged(1, land(1, 10005))}},
	} {
		checkMerge(t, items, api.Window{From: 0, To: 2000, Cutoff: c.cutoff}, c.want...)
	}
	for cutoff, want := range map[int]api.Merged{20: merged(1, land(1, 10001)), 24: merged(1, land(1, 10001)), 25: merged(2, land(), 1), 30: merged(2, land(), 1), 40: merged(1, land(1, 10003))} {
		checkMerge(t, items[:4], api.Window{From: 0, To: 2000, Cutoff: cutoff}, want)
	}
}

// P10.3: both ends of the window belong to it.
func TestMergeWindow(t *testing.T) {
	var items []api.Item
	var all []api.Merged
	for i, minute := range []int{0, 99, 100, 101, 200, 201, api.MaxMinute} {
		r := report(api.Land, "01234", minute, api.Place{}, 1, 10000+i)
		items = append(items, item(r, i, 0))
		all = append(all, merged(1, r))
	}
	for _, c := range []struct{ from, to, first, end int }{
		{0, api.MaxMinute, 0, 7}, {least, most, 0, 7}, {1, api.MaxMinute - 1, 1, 6},
		{100, 200, 2, 5}, {99, 201, 1, 6}, {101, 199, 3, 4}, {100, 100, 2, 3}, {0, 0, 0, 1}, {150, 150, 0, 0}, {102, 199, 0, 0},
		{-5, -1, 0, 0}, {least, least, 0, 0}, {most, most, 0, 0}, {api.MaxMinute + 1, most, 0, 0}, {api.MaxMinute, most, 6, 7},
	} {
		checkMerge(t, items, api.Window{From: c.from, To: c.to, Cutoff: 0}, all[c.first:c.end]...)
	}
}

// P10.3: only reports with equal Kind, Name and Time are versions of one another, and those without versions that count are left out.
func TestMergeOfDifferentReports(t *testing.T) {
	var items []api.Item
	var want []api.Merged
	for _, kind := range []int{api.Land, api.Ship, api.Buoy} {
		for _, name := range []string{"00000", "0000A", "ZZZZZ"} {
			for i, minute := range []int{8, 9, 10, 100} {
				r := report(kind, name, minute, api.Place{}, 1, 10000+i)
				if kind != api.Land {
					r.Place = api.Place{Face: i, A: 1, B: 1, C: 838}
				}
				items = append(items, item(r, i, 100-i), item(r, 0, 200))
				if i > 0 {
					want = append(want, merged(1, r))
				} else {
					want = append(want, merged(2, r))
				}
			}
		}
	}
	checkMerge(t, items, always, want...)
	for i := range want {
		want[i].Versions = 1
	}
	checkMerge(t, items, api.Window{From: 0, To: 200, Cutoff: 199}, want...)
	want = slices.DeleteFunc(want, func(m api.Merged) bool { return m.Report.Time < 10 })
	checkMerge(t, items, api.Window{From: 0, To: 200, Cutoff: 98}, want...)
}

// P10.3
func TestMergeErrors(t *testing.T) {
	good := ascending()
	windows := []api.Window{always, {From: 1, To: 0}, {From: most, To: least}}
	for _, w := range windows {
		for want, l := range map[api.Errno][]api.Item{
			api.ErrLimit:  append(full(), item(land(), 0, 0)),
			api.ErrKind:   {{}},
			api.ErrSyntax: {item(report(api.Land, "", 0, api.Place{}), 0, 0)},
			api.ErrOrder:  {good[0], good[2], good[1]},
			api.ErrRange:  {item(land(), 0, -1)},
		} {
			if got, e := Merge(l, w); len(got) != 0 || e != want {
				t.Errorf("Merge of %v, %v = %v, %d, not %d", l, w, got, e, want)
			}
		}
	}
	for _, w := range []api.Window{{From: 1, To: 0}, {From: 0, To: -1}, {From: 1001, To: 1000, Cutoff: 5}, {From: most, To: least}, {From: least + 1, To: least}, {From: most, To: most - 1}} {
		for _, l := range [][]api.Item{nil, good, full()} {
			if got, e := Merge(l, w); len(got) != 0 || e != api.ErrRange {
				t.Errorf("Merge of %d items, %v = %v, %d, not ErrRange", len(l), w, got, e)
			}
		}
	}
}

// reference returns what Merge returns for an inbox, by looking for each report at all items again.
func reference(l []api.Item, w api.Window) []api.Merged {
	var all []api.Merged
	for i, x := range l {
		arrived := func(y api.Item) bool {
			return y.Report.Kind == x.Report.Kind && y.Report.Name == x.Report.Name && y.Report.Time == x.Report.Time && y.Arrival <= w.Cutoff
		}
		if slices.IndexFunc(l, arrived) != i || x.Report.Time < w.From || x.Report.Time > w.To {
			continue
		}
		greatest := -1
		for _, y := range l {
			if arrived(y) {
				greatest = max(greatest, y.Correction)
			}
		}
		all = append(all, together(slices.DeleteFunc(slices.Clone(l), func(y api.Item) bool { return !arrived(y) || y.Correction != greatest })))
	}
	return all
}

// together returns what items that count are merged to, by looking at pairs of them.
func together(l []api.Item) api.Merged {
	m := merged(len(l), report(l[0].Report.Kind, l[0].Report.Name, l[0].Report.Time, l[0].Report.Place))
	for _, x := range l {
		if x.Report.Place != l[len(l)-1].Report.Place {
			m.Report.Place = api.Place{}
			m.Contradicted = []int{0}
		}
	}
	for code := 1; code <= api.MaxElements; code++ {
		found, different := false, false
		value := 0
		for _, x := range l {
			for _, r := range x.Report.Readings {
				if r.Element == code {
					different = different || found && value != r.Value
					found, value = true, r.Value
				}
			}
		}
		if different {
			m.Contradicted = append(m.Contradicted, code)
		} else if found {
			m.Report.Readings = append(m.Report.Readings, api.Reading{Element: code, Value: value})
		}
	}
	return m
}

// P10.3
func TestMergeOfRandomItems(t *testing.T) {
	random := rand.New(rand.NewSource(12))
	for range 1000 {
		items := randomItems(random, 60)
		from := 99 + random.Intn(3)
		w := api.Window{From: from, To: from + random.Intn(3), Cutoff: 99 + random.Intn(7)}
		checkMerge(t, items, w, reference(sorted(items), w)...)
	}
}

// The consequences: with a later cut-off no report disappears, and what arrived behind it or has a lesser correction does not matter.
func TestMergeConsequences(t *testing.T) {
	random := rand.New(rand.NewSource(13))
	same := func(a, b api.Report) bool { return a.Kind == b.Kind && a.Name == b.Name && a.Time == b.Time }
	for range 200 {
		items := sorted(randomItems(random, 60))
		var before []api.Merged
		for cutoff := 99; cutoff <= 105; cutoff++ {
			w := api.Window{From: 100, To: 101, Cutoff: cutoff}
			now, _ := Merge(items, w)
			for _, m := range before {
				if !slices.ContainsFunc(now, func(n api.Merged) bool { return same(n.Report, m.Report) }) {
					t.Fatalf("the report %v of %v disappears at %d", m, items, cutoff)
				}
			}
			before = now
			checkMerge(t, slices.DeleteFunc(slices.Clone(items), func(x api.Item) bool {
				return x.Arrival > cutoff || slices.ContainsFunc(items, func(y api.Item) bool {
					return same(x.Report, y.Report) && y.Arrival <= cutoff && y.Correction > x.Correction
				})
			}), w, now...)
		}
	}
}

// Rule 2: arguments do not change, and results are new memory.
func TestMergedIsNew(t *testing.T) {
	l := []api.Item{item(land(1, 10132, 2, 2800), 0, 5), item(ship(4, 1, 10132), 0, 5), item(ship(5, 1, 10133), 0, 5)}
	want := copied(l)
	got, _ := Merge(l, always)
	if len(got) != 2 {
		t.Fatalf("Merge gives %v", got)
	}
	for _, m := range got {
		for i := range m.Report.Readings {
			m.Report.Readings[i] = api.Reading{Element: 9, Value: 9}
		}
		for i := range m.Contradicted {
			m.Contradicted[i] = 99
		}
		_ = append(m.Report.Readings, api.Reading{Element: 9, Value: 9})
	}
	if !slices.EqualFunc(l, want, equal) {
		t.Errorf("a change of what is merged changes the inbox to %v", l)
	}
}
