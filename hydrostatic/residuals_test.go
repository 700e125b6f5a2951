package hydrostatic

import (
	"math/big"
	"math/rand"
	"slices"
	"testing"

	"synoptic/api"
)

const (
	least = -1 << 63
	most  = 1<<63 - 1
)

// list returns the readings whose elements and values are given in turn.
func list(numbers ...int) []api.Reading {
	var l []api.Reading
	for x := range slices.Chunk(numbers, 2) {
		l = append(l, api.Reading{Element: x[0], Value: x[1]})
	}
	return l
}

// levels returns the readings of H850, T850, H700, T700, H500 and T500, or of the first ones of these.
func levels(values ...int) []api.Reading {
	var l []api.Reading
	for i, value := range values {
		l = append(l, api.Reading{Element: api.H850 + i, Value: value})
	}
	return l
}

// found is what Residuals returns.
type found struct {
	lower    int
	hasLower bool
	upper    int
	hasUpper bool
}

// checkResiduals compares what Residuals returns with what is expected.
func checkResiduals(t *testing.T, l []api.Reading, want found) {
	t.Helper()
	before := slices.Clone(l)
	var got found
	got.lower, got.hasLower, got.upper, got.hasUpper = Residuals(l)
	if got != want {
		t.Fatalf("Residuals = %v, not %v, of %v", got, want, l)
	}
	if !slices.Equal(l, before) {
		t.Fatalf("Residuals changed %v to %v", before, l)
	}
}

// P17.1: the values of the chapter's examples.
func TestResidualsOfExamples(t *testing.T) {
	checkResiduals(t, levels(1400, 2800, 2991, 2800), found{-4800, true, 0, false})
	checkResiduals(t, levels(1400, 2800, 2991, 2800, 5650, 2600), found{-4800, true, 800, true})
	checkResiduals(t, levels(1400, 2800, 3091, 2800, 5650, 2600), found{1995200, true, -1999200, true})
}

// P17.1: what each reading counts in both residuals.
func TestResidualsOfOne(t *testing.T) {
	for i, counts := range [][2]int{{-20000, 0}, {-5683, 0}, {20000, -20000}, {-5683, -9848}, {0, 20000}, {0, -9848}} {
		for _, value := range []int{0, 1, -1, 2, 7, 100000, -100000} {
			l := levels(0, 0, 0, 0, 0, 0)
			l[i].Value = value
			checkResiduals(t, l, found{counts[0] * value, true, counts[1] * value, true})
		}
	}
}

// P17.1: a layer exists if its four readings do, whatever other readings there are.
func TestResidualsThatExist(t *testing.T) {
	all := levels(1400, 2800, 3091, 2800, 5650, 2600)
	for set := range 1 << 6 {
		l := list(1, 10132, 2, 2800, 0, 7, -6, 1400, 12, 5650, 1<<32+6, 1300)
		for i, r := range all {
			if set>>i&1 == 1 {
				l = append(l, r)
			}
		}
		var want found
		if set&0b001111 == 0b001111 {
			want.lower, want.hasLower = 1995200, true
		}
		if set&0b111100 == 0b111100 {
			want.upper, want.hasUpper = -1999200, true
		}
		checkResiduals(t, l, want)
		slices.Reverse(l)
		checkResiduals(t, l, want)
		checkResiduals(t, l[:len(l)-6], want)
	}
	checkResiduals(t, nil, found{})
	checkResiduals(t, []api.Reading{}, found{})
	// The residual of a layer that exists can be 0.
	checkResiduals(t, levels(0, 0, 0, 0), found{0, true, 0, false})
	checkResiduals(t, levels(0, 0, 0, 0, 2462, 5000), found{0, true, 0, true})
}

// P17.1: of several readings of an element, the first one counts.
func TestResidualsOfFirstReadings(t *testing.T) {
	all := levels(1400, 2800, 3091, 2800, 5650, 2600)
	for i, r := range all {
		for _, other := range []int{0, r.Value - 1, r.Value + 1, 100000, -100000, 100001, most} {
			last := append(slices.Clone(all), api.Reading{Element: r.Element, Value: other})
			checkResiduals(t, last, found{1995200, true, -1999200, true})
			next := slices.Insert(slices.Clone(all), i+1, api.Reading{Element: r.Element, Value: other})
			checkResiduals(t, next, found{1995200, true, -1999200, true})
		}
	}
	twice := append(slices.Clone(all), levels(1, 2, 3, 4, 5, 6)...)
	checkResiduals(t, twice, found{1995200, true, -1999200, true})
	checkResiduals(t, append(levels(0, 0, 0, 0, 1), twice...), found{0, true, 20000 - 9848*2600, true})
}

// P17.1: readings with great values do not exist, and so the next one of the element is the first that does.
func TestResidualsOfGreatValues(t *testing.T) {
	all := levels(1400, 2800, 3091, 2800, 5650, 2600)
	for i := range all {
		for _, great := range []int{100001, -100001, 100002, 1 << 31, 1 << 32, 1<<32 + 2800, -1 << 32, 1 << 62, most, least, least + 1} {
			l := slices.Clone(all)
			l[i].Value = great
			want := found{1995200, true, -1999200, true}
			if i < 4 {
				want.lower, want.hasLower = 0, false
			}
			if i > 1 {
				want.upper, want.hasUpper = 0, false
			}
			checkResiduals(t, l, want)
			checkResiduals(t, append(l, all[i]), found{1995200, true, -1999200, true})
		}
	}
	checkResiduals(t, levels(100000, 100000, -100000, 100000, 100000, 100000), found{-5136600000, true, 2030400000, true})
	checkResiduals(t, levels(-100000, -100000, 100000, -100000, -100000, -100000), found{5136600000, true, -2030400000, true})
}

// metres returns the exact difference between the thickness of a layer and the one that its mean temperature gives.
func metres(values map[int]*big.Rat, bottom, top int, perMetre int64) (*big.Rat, bool) {
	for _, code := range []int{bottom, bottom + 1, top, top + 1} {
		if values[code] == nil {
			return new(big.Rat), false
		}
	}
	thickness := new(big.Rat).Sub(values[top], values[bottom])
	sum := new(big.Rat).Add(values[bottom+1], values[top+1])
	return thickness.Sub(thickness, sum.Mul(sum, big.NewRat(perMetre, 20000))), true
}

// layers returns the residuals of both layers in metres, and whether they exist.
func layers(l []api.Reading) (*big.Rat, bool, *big.Rat, bool) {
	values := map[int]*big.Rat{}
	for _, r := range slices.Backward(l) {
		if r.Value <= 100000 && r.Value >= -100000 {
			values[r.Element] = big.NewRat(int64(r.Value), 1)
		}
	}
	lower, hasLower := metres(values, api.H850, api.H700, 5683)
	upper, hasUpper := metres(values, api.H700, api.H500, 9848)
	return lower, hasLower, upper, hasUpper
}

// P17.1: against fractions of metres, for lists that need not be valid.
func TestResiduals(t *testing.T) {
	random := rand.New(rand.NewSource(17))
	seen := map[[2]bool]int{}
	for range 50000 {
		var l []api.Reading
		for range random.Intn(30) {
			value := random.Intn(200001) - 100000
			if random.Intn(8) == 0 {
				value = []int{100000, -100000, 100001, -100001, most, least}[random.Intn(6)]
			}
			l = append(l, api.Reading{Element: 5 + random.Intn(8), Value: value})
		}
		lower, hasLower, upper, hasUpper := layers(l)
		units := big.NewRat(20000, 1)
		lower.Mul(lower, units)
		upper.Mul(upper, units)
		checkResiduals(t, l, found{int(lower.Num().Int64()), hasLower, int(upper.Num().Int64()), hasUpper})
		seen[[2]bool{hasLower, hasUpper}]++
	}
	for _, has := range [][2]bool{{false, false}, {true, false}, {false, true}, {true, true}} {
		if seen[has] < 1000 {
			t.Errorf("only %d lists for %v", seen[has], has)
		}
	}
}

// P17.1: long lists, whose failures are printed without the lists.
func TestResidualsOfManyReadings(t *testing.T) {
	var l []api.Reading
	for i := range 200000 {
		l = append(l, list(i%12, 100001+i)...)
	}
	if lower, hasLower, upper, hasUpper := Residuals(l); lower != 0 || hasLower || upper != 0 || hasUpper {
		t.Errorf("Residuals = %d, %t, %d, %t of readings that do not exist", lower, hasLower, upper, hasUpper)
	}
	l = append(l, levels(1400, 2800, 3091, 2800, 5650, 2600)...)
	if lower, hasLower, upper, hasUpper := Residuals(l); lower != 1995200 || !hasLower || upper != -1999200 || !hasUpper {
		t.Errorf("Residuals = %d, %t, %d, %t behind many readings", lower, hasLower, upper, hasUpper)
	}
}
