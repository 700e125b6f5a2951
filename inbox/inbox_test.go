package inbox

import (
	"cmp"
	"fmt"
	"math/rand"
	"slices"
	"testing"

	"synoptic/api"
	"synoptic/group"
)

const (
	least = -1 << 63
	most  = 1<<63 - 1
)

// report returns a report whose readings are given as elements and values in turn.
func report(kind int, name string, minute int, where api.Place, numbers ...int) api.Report {
	r := api.Report{Kind: kind, Name: name, Time: minute, Place: where}
	for i := 0; i < len(numbers); i += 2 {
		r.Readings = append(r.Readings, api.Reading{Element: numbers[i], Value: numbers[i+1]})
	}
	return r
}

func land(numbers ...int) api.Report {
	return report(api.Land, "01234", 1000, api.Place{}, numbers...)
}

func ship(face int, numbers ...int) api.Report {
	return report(api.Ship, "DELTA", 1000, api.Place{Face: face, A: 419, B: 420, C: 1}, numbers...)
}

func item(r api.Report, correction, arrival int) api.Item {
	return api.Item{Report: r, Correction: correction, Arrival: arrival}
}

// with returns an item after a change.
func with(x api.Item, change func(x *api.Item)) api.Item {
	change(&x)
	return x
}

// ascending returns valid items, each of which is greater than all before it: by one part, while those behind this part become less.
func ascending() []api.Item {
	return []api.Item{
		item(report(api.Land, "ZZZZZ", api.MaxMinute, api.Place{}, 2, 3000), api.MaxCorrection, api.MaxMinute),
		item(report(api.Ship, "00000", api.MaxMinute, api.Place{Face: 19, A: 1, B: 1, C: 838}, 2, 3000), api.MaxCorrection, api.MaxMinute),
		item(report(api.Ship, "0000A", api.MaxMinute, api.Place{Face: 18, A: 1, B: 1, C: 838}, 2, 2999), 25, api.MaxMinute),
		item(report(api.Ship, "DELTA", 8, api.Place{Face: 18, A: 1, B: 1, C: 838}, 2, 3000), 25, api.MaxMinute),
		item(report(api.Ship, "DELTA", 9, api.Place{Face: 17, A: 1, B: 1, C: 838}, 2, 2999), 24, api.MaxMinute-1),
		item(report(api.Ship, "DELTA", 10, api.Place{Face: 16, A: 1, B: 1, C: 838}, 2, 2998), 0, 70),
		item(report(api.Ship, "DELTA", 10, api.Place{Face: 15, A: 1, B: 1, C: 838}, 2, 2997), 1, 69),
		item(report(api.Ship, "DELTA", 10, api.Place{Face: 14, A: 1, B: 1, C: 838}, 2, 2996), 10, 8),
		item(report(api.Ship, "DELTA", 10, api.Place{Face: 13, A: 1, B: 1, C: 838}, 2, 2995), 10, 9),
		item(report(api.Ship, "DELTA", 10, api.Place{Face: 5, A: 300, B: 40, C: 500}, 2, 2995), 10, 10),
		item(report(api.Ship, "DELTA", 10, api.Place{Face: 6, A: 8, B: 500, C: 332}, 2, 2994), 10, 10),
		item(report(api.Ship, "DELTA", 10, api.Place{Face: 6, A: 200, B: 9, C: 631}, 2, 2994), 10, 10),
		item(report(api.Ship, "DELTA", 10, api.Place{Face: 6, A: 200, B: 300, C: 340}), 10, 10),
		item(report(api.Ship, "DELTA", 10, api.Place{Face: 6, A: 200, B: 300, C: 340}, 1, 10132), 10, 10),
		item(report(api.Ship, "DELTA", 10, api.Place{Face: 6, A: 200, B: 300, C: 340}, 1, 10132, 4, 1000), 10, 10),
		item(report(api.Ship, "DELTA", 10, api.Place{Face: 6, A: 200, B: 300, C: 340}, 1, 10132, 5, -3), 10, 10),
		item(report(api.Ship, "DELTA", 10, api.Place{Face: 6, A: 200, B: 300, C: 340}, 1, 10132, 5, 2), 10, 10),
		item(report(api.Ship, "DELTA", 10, api.Place{Face: 6, A: 200, B: 300, C: 340}, 1, 10133), 10, 10),
		item(report(api.Ship, "DELTA", 10, api.Place{Face: 6, A: 200, B: 300, C: 340}, 2, 2000), 10, 10),
		item(report(api.Buoy, "00000", 0, api.Place{Face: 0, A: 0, B: 0, C: 840}), 0, 0),
	}
}

// full returns an inbox with MaxItems items, with no, one or two readings each.
func full() []api.Item {
	var l []api.Item
	for i := range api.MaxItems {
		l = append(l, item(report(api.Land, fmt.Sprintf("%05d", 2*i+1), 7, api.Place{}, []int{1, 10000, 2, 2800}[:i%3*2]...), i%27, i))
	}
	return l
}

// invalidItems returns items with the error of each.
func invalidItems() map[api.Errno][]api.Item {
	l := map[api.Errno][]api.Item{}
	add := func(e api.Errno, change func(x *api.Item)) {
		for _, base := range []api.Item{item(land(2, 2800), 0, 1000), item(ship(5, 1, 10132), 3, 0)} {
			l[e] = append(l[e], with(base, change))
		}
	}
	for _, n := range []int{-1, 1<<32 + 1, -1<<32 + 5, least, most} {
		add(api.ErrRange, func(x *api.Item) { x.Correction = n })
		add(api.ErrRange, func(x *api.Item) { x.Arrival = n })
		add(api.ErrRange, func(x *api.Item) { x.Report.Time = n })
		add(api.ErrRange, func(x *api.Item) { x.Report.Place.A = n })
	}
	for _, change := range []func(x *api.Item){
		func(x *api.Item) { x.Correction = api.MaxCorrection + 1 },
		func(x *api.Item) { x.Arrival = api.MaxMinute + 1 },
		func(x *api.Item) { x.Report.Time = api.MaxMinute + 1 },
		func(x *api.Item) { x.Report.Place.Face++; x.Report.Place.C-- },
		func(x *api.Item) { x.Report.Readings = []api.Reading{{Element: api.Air, Value: 1799}} },
	} {
		add(api.ErrRange, change)
	}
	add(api.ErrKind, func(x *api.Item) { x.Report.Kind = 0 })
	add(api.ErrKind, func(x *api.Item) { x.Report.Kind = 4 })
	add(api.ErrKind, func(x *api.Item) { x.Report.Readings = []api.Reading{{Element: 12, Value: 2800}} })
	add(api.ErrSyntax, func(x *api.Item) { x.Report.Name = "0123" })
	add(api.ErrSyntax, func(x *api.Item) { x.Report.Name = "delta" })
	add(api.ErrOrder, func(x *api.Item) {
		x.Report.Readings = []api.Reading{{Element: 2, Value: 2800}, {Element: 2, Value: 2800}}
	})
	// What is wrong with the report comes before what else is wrong with the item.
	for _, change := range []func(x *api.Item){func(x *api.Item) { x.Correction = -1 }, func(x *api.Item) { x.Arrival = -1 }} {
		add(api.ErrKind, func(x *api.Item) { x.Report.Kind = -1; change(x) })
		add(api.ErrSyntax, func(x *api.Item) { x.Report.Name = ""; change(x) })
		add(api.ErrOrder, func(x *api.Item) {
			x.Report.Readings = []api.Reading{{Element: 2, Value: 2800}, {Element: 1, Value: 10132}}
			change(x)
		})
	}
	return l
}

// key returns a text that is less exactly if the valid item is less: all its parts have the same widths.
func key(x api.Item) string {
	r := x.Report
	s := fmt.Sprintf("%d%s%08d|%02d%08d|%02d%03d%03d%03d|", r.Kind, r.Name, r.Time, x.Correction, x.Arrival, r.Place.Face, r.Place.A, r.Place.B, r.Place.C)
	for _, reading := range r.Readings {
		s += fmt.Sprintf("%02d%05d", reading.Element, reading.Value+10000)
	}
	return s
}

// sorted returns valid items in ascending order, each once.
func sorted(items []api.Item) []api.Item {
	l := copied(items)
	slices.SortFunc(l, func(a, b api.Item) int { return cmp.Compare(key(a), key(b)) })
	return slices.CompactFunc(l, equal)
}

func equal(a, b api.Item) bool {
	return a.Correction == b.Correction && a.Arrival == b.Arrival && group.Same(a.Report, b.Report)
}

// copied returns items that share no memory with those of the list.
func copied(l []api.Item) []api.Item {
	var all []api.Item
	for _, x := range l {
		x.Report.Readings = append([]api.Reading(nil), x.Report.Readings...)
		all = append(all, x)
	}
	return all
}

// checkItems compares an inbox and an error with what is expected.
func checkItems(t *testing.T, name string, got []api.Item, e api.Errno, want []api.Item) {
	t.Helper()
	if e != api.OK || !slices.EqualFunc(got, want, equal) {
		t.Fatalf("%s: %v, %d, not %v", name, got, e, want)
	}
}

// checkError checks that a call has an error and no other result.
func checkError(t *testing.T, name string, got []api.Item, n int, e, want api.Errno) {
	t.Helper()
	if len(got) != 0 || n != 0 || e != want {
		t.Fatalf("%s: %v, %d, %d, not the error %d", name, got, n, e, want)
	}
}

// randomItem returns a valid item of which there are not many, so that several are versions of one another and some are equal.
func randomItem(random *rand.Rand) api.Item {
	r := report(random.Intn(3)+1, []string{"AAAAA", "BBBBB"}[random.Intn(2)], 100+random.Intn(2), api.Place{})
	if r.Kind != api.Land {
		r.Place = api.Place{Face: 3 + random.Intn(10)/9, A: 1, B: 1, C: 838}
	}
	for _, code := range []int{1, 2, 11} {
		if random.Intn(3) > 0 {
			info := map[int]int{1: 10000, 2: 2800, 11: 2500}
			r.Readings = append(r.Readings, api.Reading{Element: code, Value: info[code] + random.Intn(6)/5})
		}
	}
	return item(r, random.Intn(3), 100+random.Intn(5))
}

func randomItems(random *rand.Rand, n int) []api.Item {
	var l []api.Item
	for range random.Intn(n) {
		l = append(l, randomItem(random))
	}
	return l
}

// P10.1
func TestValidate(t *testing.T) {
	for _, l := range [][]api.Item{nil, {}, ascending(), full(), full()[:149], full()[1:]} {
		if e := Validate(l); e != api.OK {
			t.Errorf("Validate of %d items = %d", len(l), e)
		}
	}
	for _, x := range ascending() {
		if e := Validate([]api.Item{x}); e != api.OK {
			t.Errorf("Validate(%v) = %d", x, e)
		}
	}
}

// P10.1
func TestValidateOfInvalidItems(t *testing.T) {
	for want, l := range invalidItems() {
		for _, x := range l {
			if e := Validate([]api.Item{x}); e != want {
				t.Errorf("Validate(%v) = %d, not %d", x, e, want)
			}
			inbox := full()
			for _, at := range []int{0, 1, 77, 149} {
				if e := Validate(slices.Replace(slices.Clone(inbox), at, at+1, x)); e != want {
					t.Errorf("Validate with %v as item %d = %d, not %d", x, at, e, want)
				}
			}
		}
	}
}

// P10.1: the items are checked in order, and their order only if all of them are valid.
func TestValidateReturnsTheFirstError(t *testing.T) {
	invalid := invalidItems()
	for first, l := range invalid {
		for second, m := range invalid {
			for _, x := range l {
				y := m[len(m)/2]
				good := ascending()
				for _, list := range [][]api.Item{{x, y}, {good[0], x, y}, {good[2], good[1], x, y}, {good[2], good[2], x}, {x, good[2], good[1]}, {good[5], x, good[4], y}} {
					if e := Validate(list); e != first {
						t.Fatalf("Validate(%v) = %d, not %d (and %d)", list, e, first, second)
					}
				}
			}
		}
	}
}

// P10.1
func TestValidateOfTooManyItems(t *testing.T) {
	long := append(full(), item(report(api.Land, "99999", 7, api.Place{}), 0, 0))
	invalid := slices.Concat(long[:150], []api.Item{{}})
	turned := slices.Clone(long)
	slices.Reverse(turned)
	for _, l := range [][]api.Item{long, invalid, turned, make([]api.Item, 151), make([]api.Item, 1000), slices.Repeat(long, 3)} {
		if e := Validate(l); e != api.ErrLimit {
			t.Errorf("Validate of %d items = %d", len(l), e)
		}
	}
	if e := Validate(make([]api.Item, 150)); e != api.ErrKind {
		t.Errorf("Validate of 150 items that are not valid = %d", e)
	}
}

// P10.1: by the Kind, Name and Time, then the Correction, the Arrival, the Place and the Readings.
func TestValidateOfOrder(t *testing.T) {
	l := ascending()
	for i := range l {
		for j := range l {
			want := api.ErrOrder
			if i < j {
				want = api.OK
			}
			if e := Validate([]api.Item{l[i], l[j]}); e != want {
				t.Errorf("Validate(%v, %v) = %d, not %d", l[i], l[j], e, want)
			}
		}
	}
	for i := range l[1:] {
		turned := ascending()
		turned[i], turned[i+1] = turned[i+1], turned[i]
		if e := Validate(turned); e != api.ErrOrder {
			t.Errorf("Validate with the items %d and %d in each other's place = %d", i, i+1, e)
		}
		if e := Validate(slices.Insert(ascending(), i, l[i])); e != api.ErrOrder {
			t.Errorf("Validate with the item %d twice = %d", i, e)
		}
	}
}

// P10.2
func TestAdd(t *testing.T) {
	l := ascending()
	for i, x := range l {
		rest := slices.Delete(ascending(), i, i+1)
		got, e := Add(rest, x)
		checkItems(t, fmt.Sprintf("Add of the item %d", i), got, e, l)
		got, e = Add(l, x)
		checkItems(t, fmt.Sprintf("Add of the item %d, which is there", i), got, e, l)
	}
	for _, none := range [][]api.Item{nil, {}} {
		got, e := Add(none, l[3])
		checkItems(t, "Add to no items", got, e, l[3:4])
	}
	x := l[14]
	x.Report.Readings = nil
	got, e := Add(nil, x)
	checkItems(t, "Add without readings", got, e, []api.Item{x})
	x.Report.Readings = []api.Reading{}
	again, e := Add(got, x)
	checkItems(t, "Add with an empty list of readings", again, e, got)
}

// P10.2 and the consequence: the order and the number of times do not matter.
func TestAddInAnyOrder(t *testing.T) {
	random := rand.New(rand.NewSource(10))
	for range 60 {
		items := append(randomItems(random, 40), ascending()[:random.Intn(20)]...)
		items = append(items, items[len(items)/2:]...)
		random.Shuffle(len(items), func(i, j int) { items[i], items[j] = items[j], items[i] })
		var l []api.Item
		for i, x := range items {
			var e api.Errno
			l, e = Add(l, x)
			checkItems(t, "Add", l, e, sorted(items[:i+1]))
			if e := Validate(l); e != api.OK {
				t.Fatalf("Validate(%v) = %d", l, e)
			}
		}
	}
}

// P10.2
func TestAddToAFullInbox(t *testing.T) {
	inbox := full()
	for i, x := range inbox {
		got, e := Add(inbox, x)
		checkItems(t, "Add of an item that is there", got, e, inbox)
		got, e = Add(slices.Delete(full(), i, i+1), x)
		checkItems(t, "Add of the last item", got, e, inbox)
		for _, change := range []func(x *api.Item){
			func(x *api.Item) { x.Report.Kind, x.Report.Place = api.Buoy, api.Place{C: 840} },
			func(x *api.Item) { x.Report.Name = x.Report.Name[:4] + "0" },
			func(x *api.Item) { x.Report.Time++ },
			func(x *api.Item) { x.Correction = (x.Correction + 1) % 27 },
			func(x *api.Item) { x.Arrival++ },
			func(x *api.Item) { x.Report.Readings = []api.Reading{{Element: 8, Value: 3000}} },
		} {
			got, e = Add(inbox, with(x, change))
			checkError(t, "Add to a full inbox", got, 0, e, api.ErrLimit)
		}
	}
}

// P10.2: first the error of the inbox, then that of the item, then the limit.
func TestAddReturnsTheFirstError(t *testing.T) {
	good := ascending()
	invalid := invalidItems()
	invalid[api.ErrLimit] = append(invalid[api.ErrLimit], item(report(api.Land, "99999", 7, api.Place{}), 0, 0))
	for want, l := range invalid {
		for _, x := range l {
			got, e := Add(full(), x)
			checkError(t, "Add to a full inbox", got, 0, e, want)
			if want != api.ErrLimit {
				got, e = Add(nil, x)
				checkError(t, "Add to no items", got, 0, e, want)
				got, e = Add([]api.Item{x}, x)
				checkError(t, "Add of an item that is there and not valid", got, 0, e, want)
				got, e = Add([]api.Item{x}, good[0])
				checkError(t, "Add to an invalid item", got, 0, e, want)
			}
			got, e = Add([]api.Item{good[1], good[0]}, x)
			checkError(t, "Add to items in another order", got, 0, e, api.ErrOrder)
			got, e = Add([]api.Item{good[1], good[1]}, x)
			checkError(t, "Add to items of which two are equal", got, 0, e, api.ErrOrder)
			got, e = Add([]api.Item{{}}, x)
			checkError(t, "Add to the zero item", got, 0, e, api.ErrKind)
			got, e = Add(make([]api.Item, 151), x)
			checkError(t, "Add to too many items", got, 0, e, api.ErrLimit)
		}
	}
}

// P10.2
func TestTake(t *testing.T) {
	reports := []api.Report{ship(4, 1, 10132), land(2, 2800), ship(3), land(2, 2800), land(2, 2799), ship(4, 1, 10132)}
	want := []api.Item{item(reports[4], 2, 1010), item(reports[1], 2, 1010), item(reports[2], 2, 1010), item(reports[0], 2, 1010)}
	got, n, e := Take(nil, reports, 2, 1010)
	checkItems(t, "Take", got, e, want)
	if n != 4 {
		t.Errorf("Take counts %d new items, not 4", n)
	}
	again, n, e := Take(got, reports, 2, 1010)
	checkItems(t, "Take again", again, e, want)
	if n != 0 {
		t.Errorf("Take counts %d new items, not 0", n)
	}
	later, n, e := Take(got, reports[:2], 2, 1011)
	checkItems(t, "Take later", later, e, sorted(append(got, item(reports[0], 2, 1011), item(reports[1], 2, 1011))))
	if n != 2 {
		t.Errorf("Take counts %d new items, not 2", n)
	}
	later, n, e = Take(got, reports[:4], 0, 1010)
	checkItems(t, "Take without a correction", later, e, sorted(append(got, item(reports[0], 0, 1010), item(reports[1], 0, 1010), item(reports[2], 0, 1010))))
	if n != 3 {
		t.Errorf("Take counts %d new items, not 3", n)
	}
}

// P10.2: for an empty list, only the inbox matters.
func TestTakeOfNoReports(t *testing.T) {
	for _, none := range [][]api.Report{nil, {}} {
		for _, numbers := range [][2]int{{0, 0}, {5, 1000}, {-1, 0}, {27, 0}, {0, -1}, {least, most}} {
			for _, l := range [][]api.Item{nil, {}, ascending(), full()} {
				got, n, e := Take(l, none, numbers[0], numbers[1])
				checkItems(t, "Take of no reports", got, e, l)
				if n != 0 {
					t.Errorf("Take counts %d new items, not 0", n)
				}
			}
			for want, l := range map[api.Errno][]api.Item{api.ErrLimit: make([]api.Item, 151), api.ErrKind: {{}}, api.ErrOrder: {ascending()[1], ascending()[0]}, api.ErrRange: {item(land(), 27, 0)}} {
				got, n, e := Take(l, none, numbers[0], numbers[1])
				checkError(t, "Take of no reports", got, n, e, want)
			}
		}
	}
}

// P10.2: the first error of one report after the other ends Take.
func TestTakeReturnsTheFirstError(t *testing.T) {
	fresh := func(i int) api.Report { return report(api.Land, fmt.Sprintf("%05d", 2*i), 7, api.Place{}) }
	invalid := report(0, "01234", 7, api.Place{})
	misnamed := report(api.Land, "", 7, api.Place{})
	there := full()[0].Report
	for _, c := range []struct {
		items               int
		reports             []api.Report
		correction, arrival int
		want                api.Errno
	}{
		{0, []api.Report{invalid}, 0, 0, api.ErrKind},
		{3, []api.Report{fresh(0), fresh(1), misnamed, invalid}, 0, 0, api.ErrSyntax},
		{3, []api.Report{fresh(0), invalid, misnamed}, 27, 0, api.ErrRange},
		{3, []api.Report{invalid, fresh(0)}, 27, 0, api.ErrKind},
		{3, []api.Report{fresh(0)}, 0, api.MaxMinute + 1, api.ErrRange},
		{3, []api.Report{fresh(0)}, -1, 0, api.ErrRange},
		{150, []api.Report{fresh(0)}, 0, 0, api.ErrLimit},
		{150, []api.Report{there, there, fresh(0), invalid}, 0, 0, api.ErrLimit},
		{150, []api.Report{there, invalid, fresh(0)}, 0, 0, api.ErrKind},
		{150, []api.Report{fresh(0)}, -1, 0, api.ErrRange},
		{150, []api.Report{there}, 0, 1, api.ErrLimit},
		{149, []api.Report{fresh(0), fresh(1), invalid}, 0, 0, api.ErrLimit},
		{149, []api.Report{fresh(0), invalid, fresh(1)}, 0, 0, api.ErrKind},
		{151, []api.Report{invalid}, -1, 0, api.ErrLimit},
	} {
		inbox := append(full(), item(report(api.Ship, "AAAAA", 0, api.Place{C: 840}), 0, 0))[:c.items]
		got, n, e := Take(inbox, c.reports, c.correction, c.arrival)
		checkError(t, fmt.Sprintf("Take of %v", c.reports), got, n, e, c.want)
	}
	got, n, e := Take(full()[:149], []api.Report{there, fresh(0), there, fresh(0)}, 0, 0)
	checkItems(t, "Take of the last item", got, e, sorted(append(full()[:149], item(fresh(0), 0, 0))))
	if n != 1 {
		t.Errorf("Take counts %d new items, not 1", n)
	}
}

// P10.2: Take gives what Add gives for one report after the other.
func TestTakeIsAddOfAll(t *testing.T) {
	random := rand.New(rand.NewSource(11))
	for range 1000 {
		l := sorted(randomItems(random, 30))
		correction, arrival := random.Intn(3), 100+random.Intn(5)
		var reports []api.Report
		want := l
		for range random.Intn(20) {
			x := randomItem(random)
			reports = append(reports, x.Report)
			want, _ = Add(want, item(x.Report, correction, arrival))
		}
		got, n, e := Take(l, reports, correction, arrival)
		checkItems(t, "Take", got, e, want)
		if n != len(want)-len(l) {
			t.Fatalf("Take counts %d new items, not %d", n, len(want)-len(l))
		}
	}
}

// spoil changes all that an inbox has memory for.
func spoil(l []api.Item) {
	for _, x := range l {
		for i := range x.Report.Readings {
			x.Report.Readings[i] = api.Reading{Element: 9, Value: 9}
		}
		_ = append(x.Report.Readings, api.Reading{Element: 9, Value: 9})
	}
	for i := range l {
		l[i] = api.Item{Correction: 99}
	}
	_ = append(l, api.Item{Correction: 99})
}

// Rule 2: arguments do not change, and results are new memory.
func TestResultsAreNew(t *testing.T) {
	l := ascending()
	free := append(ascending(), make([]api.Item, 5)...)[:len(l)]
	x := item(ship(7, 1, 10132, 2, 2800), 4, 77)
	spare := append(make([]api.Reading, 0, 9), x.Report.Readings...)
	x.Report.Readings = spare
	check := func(name string) {
		t.Helper()
		if !slices.EqualFunc(free, l, equal) || !equal(free[:len(l)+1][len(l)], api.Item{}) {
			t.Fatalf("%s changes the inbox", name)
		}
		if !equal(x, item(ship(7, 1, 10132, 2, 2800), 4, 77)) || spare[:3][2] != (api.Reading{}) {
			t.Fatalf("%s changes the item", name)
		}
	}
	for _, added := range []api.Item{x, l[14], l[0]} {
		got, _ := Add(free, added)
		check("Add")
		spoil(got)
		check("a change of the result of Add")
		got, _, _ = Take(free, []api.Report{added.Report, x.Report}, added.Correction, added.Arrival)
		check("Take")
		spoil(got)
		check("a change of the result of Take")
	}
	got, _, _ := Take(free, nil, 0, 0)
	spoil(got)
	check("a change of the result of Take")
}

// Rule 2 and the rule that no two lists of a result share memory.
func TestItemsShareNoMemory(t *testing.T) {
	first := report(api.Land, "AAAAA", 7, api.Place{}, 1, 10132)
	second := report(api.Land, "BBBBB", 7, api.Place{})
	second.Readings = first.Readings
	got, _, e := Take([]api.Item{item(first, 0, 0)}, []api.Report{first, second}, 1, 5)
	want := []api.Item{item(first, 0, 0), item(first, 1, 5), item(second, 1, 5)}
	checkItems(t, "Take", got, e, want)
	got[0].Report.Readings[0].Value, got[2].Report.Readings[0].Value = 1, 2
	if value := got[1].Report.Readings[0].Value; value != 10132 {
		t.Errorf("a change of other items changes one: %d", value)
	}
}
