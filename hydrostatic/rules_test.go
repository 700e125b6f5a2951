package hydrostatic

import (
	"math/big"
	"math/rand"
	"slices"
	"testing"

	"synoptic/api"
)

// ranges holds the least and the greatest value of H850, T850, H700, T700, H500 and T500.
var ranges = [6][2]int{{900, 1700}, {2000, 3200}, {2400, 3400}, {2000, 3000}, {4400, 6200}, {2000, 2900}}

// atMost reports whether the absolute value of a number is at most a limit.
func atMost(x *big.Rat, limit int64) bool {
	return new(big.Rat).Abs(x).Cmp(big.NewRat(limit, 1)) <= 0
}

// expected returns what Check should return for valid readings, with both layers in metres.
func expected(l []api.Reading, tolerance int) []int {
	m := int64(tolerance)
	lower, hasLower, upper, hasUpper := layers(l)
	lowerWrong, upperWrong := hasLower && !atMost(lower, m), hasUpper && !atMost(upper, m)
	if lowerWrong && upperWrong {
		sum := new(big.Rat).Add(lower, upper)
		x := new(big.Rat).Mul(lower, big.NewRat(9848, 1))
		x.Sub(x, new(big.Rat).Mul(upper, big.NewRat(5683, 1)))
		if atMost(sum, m) && !atMost(x, 9848*m) {
			return height
		}
		if atMost(x, 9848*m) && !atMost(sum, m) {
			return warmth
		}
		return everything
	}
	switch {
	case lowerWrong && hasUpper:
		return lowest
	case lowerWrong:
		return lowerFour
	case upperWrong && hasLower:
		return highest
	case upperWrong:
		return upperFour
	}
	return nothing
}

// randomFit returns readings of all levels whose residuals are small.
func randomFit(random *rand.Rand) []api.Reading {
	l := levels(1200+random.Intn(400), 2400+random.Intn(400), 0, 2400+random.Intn(400), 0, 2400+random.Intn(400))
	l[2].Value = l[0].Value + (5683*(l[1].Value+l[3].Value)+10000)/20000
	l[4].Value = l[2].Value + (9848*(l[3].Value+l[5].Value)+10000)/20000
	return l
}

// spoilt returns readings of which one at random has another valid value.
func spoilt(random *rand.Rand, l []api.Reading) []api.Reading {
	l = slices.Clone(l)
	i := random.Intn(len(l))
	b := ranges[l[i].Element-api.H850]
	l[i].Value = min(max(l[i].Value+random.Intn(601)-300, b[0]), b[1])
	return l
}

// tolerances returns tolerances at which the result can change, and those next to them.
func tolerances(l []api.Reading) []int {
	lower, _, upper, _ := layers(l)
	x := new(big.Rat).Mul(upper, big.NewRat(5683, 9848))
	all := []int{0, 1, 20, 1000}
	for _, y := range []*big.Rat{lower, upper, new(big.Rat).Add(lower, upper), x.Sub(lower, x)} {
		whole := new(big.Int).Quo(y.Num(), y.Denom())
		m := int(whole.Abs(whole).Int64())
		all = append(all, m-1, m, m+1, m+2)
	}
	return slices.DeleteFunc(all, func(m int) bool { return m < 0 || m > 1000 })
}

// P17.2: against the rules in fractions of metres, at tolerances where the result changes.
func TestCheckAgainstTheRules(t *testing.T) {
	random := rand.New(rand.NewSource(172))
	results := [][]int{nothing, lowest, highest, lowerFour, upperFour, height, warmth, everything}
	seen := make([]int, len(results))
	for range 10000 {
		l := randomFit(random)
		for range random.Intn(4) {
			l = spoilt(random, l)
		}
		if random.Intn(2) == 0 {
			l = slices.Delete(l, 0, random.Intn(2))
			n := len(l) - random.Intn(2)
			l = l[:n]
		}
		for _, tolerance := range tolerances(l) {
			want := expected(l, tolerance)
			checkRejected(t, l, tolerance, want)
			seen[slices.IndexFunc(results, func(r []int) bool { return slices.Equal(r, want) })]++
		}
	}
	for i, n := range seen {
		if n < 500 {
			t.Errorf("%v is rejected only %d times", results[i], n)
		}
	}
}

// P17.2: against the rules, for readings with any valid values.
func TestCheckOfAnyReadings(t *testing.T) {
	random := rand.New(rand.NewSource(173))
	for range 10000 {
		var l []api.Reading
		for i, b := range ranges {
			l = append(l, api.Reading{Element: api.H850 + i, Value: b[0] + random.Intn(b[1]-b[0]+1)})
		}
		for _, tolerance := range tolerances(l) {
			checkRejected(t, l, tolerance, expected(l, tolerance))
		}
	}
}

// The chapter's consequence: a single error at 700 hPa that makes both layers wrong is found. With valid temperatures, the residuals cannot both be 0; these are -4 and 0.
func TestSingleErrors(t *testing.T) {
	base := levels(1200, 2888, 2731, 2500, 5193, 2500)
	for _, tolerance := range []int{1, 2, 20, 100} {
		for value := 2400; value <= 3400; value++ {
			if change := value - 2731; change > tolerance+1 || change < -tolerance-1 {
				checkRejected(t, with(base, api.H700, value), tolerance, height)
			}
		}
		for value := 2000; value <= 3000; value++ {
			// In both layers, 4 times 0.1 K are more than a metre.
			if change := value - 2500; change > 4*tolerance || change < -4*tolerance {
				checkRejected(t, with(base, api.T700, value), tolerance, warmth)
			}
		}
	}
}

// The chapter's consequence: a greater tolerance never makes a layer wrong that was right.
func TestGreaterTolerances(t *testing.T) {
	random := rand.New(rand.NewSource(174))
	isWrong := func(l []api.Reading, tolerance int) bool {
		rejected, e := Check(l, tolerance)
		if e != api.OK {
			t.Fatalf("Check = %d of %v with the tolerance %d", e, l, tolerance)
		}
		return len(rejected) > 0
	}
	for range 300 {
		all := spoilt(random, spoilt(random, randomFit(random)))
		for _, l := range [][]api.Reading{all, all[:4], all[2:]} {
			wrong := isWrong(l, 0)
			for tolerance := 1; tolerance <= 1000; tolerance++ {
				now := isWrong(l, tolerance)
				if now && !wrong {
					t.Fatalf("with the tolerance %d, a layer of %v is wrong that was right", tolerance, l)
				}
				wrong = now
			}
		}
	}
}
