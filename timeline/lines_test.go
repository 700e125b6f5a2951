package timeline

import (
	"math/rand"
	"slices"
	"testing"

	"synoptic/api"
)

// reading is a reading of a line with the index of its report.
type reading struct{ time, value, report int }

// lineOf returns the line of a name and an element, of which the next reading is the one of the least time behind the last one.
func lineOf(l []api.Report, name string, code int) []reading {
	var all []reading
	for behind := -1; ; behind = all[len(all)-1].time {
		next := reading{time: api.MaxMinute + 1}
		for i, r := range l {
			at := slices.IndexFunc(r.Readings, func(x api.Reading) bool { return x.Element == code })
			if r.Name == name && at >= 0 && r.Time > behind && r.Time < next.time {
				next = reading{r.Time, r.Readings[at].Value, i}
			}
		}
		if next.time > api.MaxMinute {
			return all
		}
		all = append(all, next)
	}
}

// isSlow reports whether the change between two readings is slow.
func isSlow(a, b reading, step int) bool {
	hours := 0
	for 60*hours < b.time-a.time {
		hours++
	}
	change := b.value - a.value
	if change < 0 {
		change = -change
	}
	return change <= step*hours
}

// isGood reports whether the step rule finds a reading of a line good, by what it says of those before.
func isGood(l []reading, i, step int) bool {
	if i == 0 || i+1 < len(l) && isSlow(l[i], l[i+1], step) {
		return true
	}
	last := i - 1
	for !isGood(l, last, step) {
		last--
	}
	return isSlow(l[last], l[i], step)
}

// isPeak reports whether the spike rule rejects a reading of a line, which is turned over for readings that are less than both others.
func isPeak(l []reading, i, limit int) bool {
	if i == 0 || i+1 >= len(l) {
		return false
	}
	a, b, c := l[i-1].value, l[i].value, l[i+1].value
	if b < a {
		a, b, c = -a, -b, -c
	}
	return b-a > limit && b-c > limit && a-c <= limit && c-a <= limit
}

// expected returns what Check should return for valid arguments, reading by reading.
func expected(l []api.Report, k api.Control) []api.Flag {
	var all []api.Flag
	for i, r := range l {
		for _, x := range r.Readings {
			own := lineOf(l, r.Name, x.Element)
			at := slices.IndexFunc(own, func(y reading) bool { return y.report == i })
			step, spike := k.Steps[x.Element], k.Spikes[x.Element]
			if step > 0 && !isGood(own, at, step) || spike > 0 && isPeak(own, at, spike) {
				all = append(all, flags(i, x.Element)...)
			}
		}
	}
	return all
}

// names holds names of which some begin with others.
var names = []string{"01234", "DELTA", "DELT", ""}

// randomList returns reports without equal names and times in a random order, whose readings are near to each other.
func randomList(random *rand.Rand, size, spread int) []api.Report {
	var l []api.Report
	for minute := 0; len(l) < size; minute += random.Intn(100) {
		for _, n := range random.Perm(len(names))[:random.Intn(3)] {
			r := named(names[n], []api.Report{at(minute)})[0]
			for code := 1; code <= api.MaxElements; code++ {
				if random.Intn(4) > 0 {
					r.Readings = append(r.Readings, api.Reading{Element: code, Value: ranges[code][0] + random.Intn(spread)})
				}
			}
			l = append(l, r)
		}
		minute++
	}
	random.Shuffle(len(l), func(i, j int) { l[i], l[j] = l[j], l[i] })
	return l
}

// randomControl returns a control of which some limits are 0.
func randomControl(random *rand.Rand, greatest int) api.Control {
	var k api.Control
	for code := range 12 {
		k.Steps[code] = random.Intn(greatest) * random.Intn(2)
		k.Spikes[code] = random.Intn(greatest) * random.Intn(2)
	}
	return k
}

// P16.1: against the rules reading by reading, for lists of which some readings are rejected.
func TestAgainstTheRules(t *testing.T) {
	random := rand.New(rand.NewSource(16))
	rejected, left := 0, 0
	for range 1500 {
		spread := 2 + random.Intn(60)
		l := randomList(random, random.Intn(24), spread)
		for range 3 {
			k := randomControl(random, 1+spread/2)
			want := expected(l, k)
			checkFlags(t, l, k, want)
			rejected += len(want)
			for _, r := range l {
				left += len(r.Readings)
			}
		}
	}
	if left -= rejected; rejected < 10000 || left < 10000 {
		t.Errorf("%d readings are rejected and %d are not, which is too few", rejected, left)
	}
}

// The chapter's consequence: the order of the list does not matter, apart from the indices.
func TestAnyOrder(t *testing.T) {
	random := rand.New(rand.NewSource(1))
	for range 300 {
		l := randomList(random, random.Intn(24), 40)
		k := randomControl(random, 20)
		got, e := Check(l, k)
		if e != api.OK {
			t.Fatalf("Check = %d of %v", e, l)
		}
		for range 5 {
			var shuffled []api.Report
			indices := random.Perm(len(l))
			for _, i := range indices {
				shuffled = append(shuffled, l[i])
			}
			again, e := Check(shuffled, k)
			for i := range again {
				again[i].Report = indices[again[i].Report]
			}
			slices.SortFunc(again, func(a, b api.Flag) int { return 100*(a.Report-b.Report) + a.Element - b.Element })
			if e != api.OK || !slices.Equal(again, got) {
				t.Fatalf("Check = %v, %d in another order, not %v, of %v", again, e, got, l)
			}
		}
	}
}

// The chapter's consequence: a line of equal readings is never rejected, and neither is one of two readings by the spike rule.
func TestNeverRejected(t *testing.T) {
	random := rand.New(rand.NewSource(2))
	for range 300 {
		equal := randomList(random, random.Intn(24), 1)
		k := randomControl(random, 3)
		checkFlags(t, equal, k, nil)
		two := randomList(random, 2, 100)
		k.Steps = [12]int{}
		checkFlags(t, two[:min(len(two), 2)], k, nil)
	}
}

// The chapter's consequence: reports of other names do not matter.
func TestOtherNames(t *testing.T) {
	random := rand.New(rand.NewSource(3))
	for range 300 {
		l := randomList(random, random.Intn(24), 40)
		k := randomControl(random, 20)
		got, _ := Check(l, k)
		for _, name := range names {
			var own []api.Report
			var indices []int
			for i, r := range l {
				if r.Name == name {
					own, indices = append(own, r), append(indices, i)
				}
			}
			alone, e := Check(own, k)
			for i := range alone {
				alone[i].Report = indices[alone[i].Report]
			}
			want := slices.DeleteFunc(slices.Clone(got), func(f api.Flag) bool { return l[f.Report].Name != name })
			if e != api.OK || !slices.Equal(alone, want) {
				t.Fatalf("Check = %v, %d of the reports of %q alone, not %v, of %v", alone, e, name, want, l)
			}
		}
	}
}
