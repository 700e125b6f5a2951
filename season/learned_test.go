package season

import (
	"math/big"
	"math/rand"
	"slices"
	"testing"
	"time"

	"synoptic/api"
	"synoptic/climate"
)

// randomReport returns a report with some readings, of a date and at a place that are one of a few.
func randomReport(random *rand.Rand, faces, months int) api.Report {
	minute := minuteOf(2000+random.Intn(100), 1+random.Intn(months), 1+random.Intn(28), random.Intn(24), random.Intn(60))
	r := report(minute, inside(random.Intn(faces)))
	for code := 1; code <= api.MaxElements; code++ {
		if random.Intn(3) > 0 {
			b := ranges[code]
			r.Readings = append(r.Readings, api.Reading{Element: code, Value: b[0] + random.Intn(b[1]-b[0]+1)})
		}
	}
	return r
}

// expected returns what Check and Far should return of a report within a face, by looking at all normals and the calendar of Go's library.
func expected(c api.Climate, r api.Report) ([]int, []int) {
	month := int(time.Date(2000, 1, 1, 0, r.Time, 0, 0, time.UTC).Month())
	var rejected, far []int
	for _, x := range r.Readings {
		for _, n := range c.Normals {
			if n.Element != x.Element || n.Face != r.Place.Face || n.Month != month {
				continue
			}
			difference := new(big.Int).Sub(big.NewInt(int64(x.Value)), big.NewInt(int64(n.Mean)))
			far = append(far, x.Element, int(difference.Int64()))
			if difference.CmpAbs(big.NewInt(int64(n.Spread))) > 0 {
				rejected = append(rejected, x.Element)
			}
		}
	}
	return rejected, far
}

// P15.1, P15.2: against all normals, for reports of which some readings have a normal and some are rejected.
func TestAgainstAllNormals(t *testing.T) {
	random := rand.New(rand.NewSource(15))
	seen := map[int]int{}
	for range 1000 {
		var learned []api.Report
		for range random.Intn(8) {
			learned = append(learned, randomReport(random, 4, 3))
		}
		c, e := climate.Learn(learned)
		if e != api.OK {
			t.Fatalf("Learn = %d", e)
		}
		for range 20 {
			r := randomReport(random, 4, 3)
			rejected, far := expected(c, r)
			checkReport(t, c, r, rejected, far...)
			seen[len(rejected)]++
		}
	}
	for n := range 6 {
		if seen[n] < 50 {
			t.Errorf("only %d reports of which %d elements are rejected", seen[n], n)
		}
	}
}

// The chapter's consequence: a climate rejects no reading of the reports from which it was learned. With lesser Spreads it does.
func TestLearnedReports(t *testing.T) {
	random := rand.New(rand.NewSource(1))
	for range 200 {
		var learned []api.Report
		for range 1 + random.Intn(30) {
			learned = append(learned, randomReport(random, 3, 2))
		}
		c, e := climate.Learn(learned)
		if e != api.OK {
			t.Fatalf("Learn = %d", e)
		}
		lesser := api.Climate{Normals: slices.Clone(c.Normals)}
		for i := range lesser.Normals {
			lesser.Normals[i].Spread = max(lesser.Normals[i].Spread-1, 0)
		}
		count := 0
		for _, r := range learned {
			_, far := expected(c, r)
			if len(far) != 2*len(r.Readings) {
				t.Fatalf("not all readings of %v have normals in %v", r, c)
			}
			checkReport(t, c, r, nil, far...)
			rejected, _ := expected(lesser, r)
			checkReport(t, lesser, r, rejected, far...)
			count += len(rejected)
		}
		positive := slices.ContainsFunc(c.Normals, func(n api.Normal) bool { return n.Spread > 0 })
		if positive && count == 0 {
			t.Errorf("lesser Spreads than those of %v reject nothing", c)
		}
	}
}

// The chapter's consequence: a greater Spread never rejects more.
func TestGreaterSpread(t *testing.T) {
	random := rand.New(rand.NewSource(2))
	for range 200 {
		c := climateOf(1, 0, 1, 9500, 0, 2, 0, 1, 2500, 0, 4, 0, 1, -20, 0, 10, 0, 1, 5000, 0)
		r := randomReport(random, 1, 1)
		before, _ := Check(c, r)
		for range 60 {
			c.Normals[random.Intn(4)].Spread += random.Intn(200)
			got, e := Check(c, r)
			if e != api.OK {
				t.Fatalf("Check = %d of %v with %v", e, r, c)
			}
			for _, code := range got {
				if !slices.Contains(before, code) {
					t.Fatalf("a greater Spread rejects also %d of %v with %v", code, r, c)
				}
			}
			before = got
		}
	}
}
