package limits

import (
	"math/big"
	"math/rand"
	"slices"
	"testing"

	"synoptic/api"
	"synoptic/element"
)

const (
	least = -1 << 63
	most  = 1<<63 - 1
)

// grossLimits holds the rows of the chapter, written out: the least and the greatest value of each element.
var grossLimits = map[int][2]int{
	api.Pressure: {8700, 10850},
	api.Air:      {1830, 3300},
	api.Dew:      {1830, 3100},
	api.East:     {-900, 900},
	api.North:    {-900, 900},
	api.H850:     {1000, 1650},
	api.T850:     {2100, 3150},
	api.H700:     {2500, 3350},
	api.T700:     {2050, 2950},
	api.H500:     {4700, 6050},
	api.T500:     {2050, 2850},
}

// noElements holds codes that do not exist. Those above 32 bits end like codes that exist.
var noElements = []int{0, -1, -2, -11, 12, 13, 80, 256, 257, 1<<32 + 1, 1<<32 + 11, -1<<32 + 1, least, least + 1, most - 1, most}

// list returns the readings whose elements and values are given in turn.
func list(numbers ...int) []api.Reading {
	var l []api.Reading
	for pair := range slices.Chunk(numbers, 2) {
		l = append(l, api.Reading{Element: pair[0], Value: pair[1]})
	}
	return l
}

// checkGross compares what Gross returns with what is expected.
func checkGross(t *testing.T, code, value int, want bool) {
	t.Helper()
	if got := Gross(api.Reading{Element: code, Value: value}); got != want {
		t.Errorf("Gross of the value %d of %d is %t", value, code, got)
	}
}

// checkRejected compares what Check returns with what is expected, and tests the chapter's consequence: without the rejected elements, none is rejected.
func checkRejected(t *testing.T, l []api.Reading, want ...int) {
	t.Helper()
	before := slices.Clone(l)
	got := Check(l)
	if !slices.Equal(got, want) {
		t.Errorf("Check(%v) = %v, not %v", l, got, want)
	}
	if !slices.Equal(l, before) {
		t.Errorf("Check changed %v to %v", before, l)
	}
	rest := element.Without(l, got)
	if again := Check(rest); len(again) > 0 {
		t.Errorf("Check(%v) = %v, but then Check(%v) = %v", l, got, rest, again)
	}
}

// P14.1: both ends of each range, and the values behind them.
func TestGross(t *testing.T) {
	if len(grossLimits) != api.MaxElements {
		t.Fatalf("%d elements, not %d", len(grossLimits), api.MaxElements)
	}
	for code, b := range grossLimits {
		for _, value := range []int{b[0], b[0] + 1, (b[0] + b[1]) / 2, b[1] - 1, b[1]} {
			checkGross(t, code, value, true)
		}
		for _, value := range []int{b[0] - 1, b[0] - 2, b[1] + 1, b[1] + 2, -b[1] - 1, b[0] - 1<<32, b[0] + 1<<32, 100001, -100001, least, most} {
			checkGross(t, code, value, false)
		}
	}
}

// P14.1: every value of an element's range and around it.
func TestGrossOfAllValues(t *testing.T) {
	for code, b := range grossLimits {
		for value := -12000; value <= 12000; value++ {
			checkGross(t, code, value, value >= b[0] && value <= b[1])
		}
	}
}

// P14.1
func TestGrossOfNoElement(t *testing.T) {
	for _, code := range noElements {
		for _, value := range []int{0, 1, 900, 2800, 10132, least, most} {
			checkGross(t, code, value, false)
		}
	}
}

// P14.2: the chapter's examples, and the ends of the two comparisons.
func TestCheckOfExamples(t *testing.T) {
	checkRejected(t, nil)
	checkRejected(t, []api.Reading{})
	checkRejected(t, list(2, 2800, 3, 2810), 2, 3)
	checkRejected(t, list(2, 2800, 3, 2800))
	checkRejected(t, list(2, 2800, 3, 2801), 2, 3)
	checkRejected(t, list(2, 2800, 3, 2799))
	checkRejected(t, list(4, 700, 5, 700), 4, 5)
	checkRejected(t, list(1, 10132, 2, 2800, 3, 2700, 4, -57, 5, 60, 6, 1500, 7, 2800, 8, 3000, 9, 2700, 10, 5600, 11, 2500))
}

// P14.2: the first comparison, of one reading.
func TestCheckOfOneReading(t *testing.T) {
	for code, b := range grossLimits {
		for _, value := range b {
			checkRejected(t, list(code, value))
		}
		for _, value := range []int{b[0] - 1, b[1] + 1, 100000, -100000, 100001, -100001, least, most} {
			checkRejected(t, list(code, value), code)
		}
	}
	for _, code := range noElements {
		for _, value := range []int{0, 2800, least, most} {
			checkRejected(t, list(code, value), code)
		}
	}
}

// P14.2: ascending and each once, in whatever order the readings are, and also elements that do not exist.
func TestCheckOrder(t *testing.T) {
	checkRejected(t, list(11, 0, 1, 0, 6, 0), 1, 6, 11)
	checkRejected(t, list(1, 0, 1, 0, 1, 10132, 1, 1), 1)
	checkRejected(t, list(1, 10132, 6, 0, 1, 1), 1, 6)
	checkRejected(t, list(12, 0, 0, 0, 12, 1, -1, 0, 1, 10132, 12, 2), -1, 0, 12)
	checkRejected(t, list(most, 0, 5, 901, least, 0, 4, 0, 11, 2851, 1<<32+2, 0), least, 4, 5, 11, 1<<32+2, most)
	checkRejected(t, list(5, 700, 3, 2810, 4, 700, 2, 2800), 2, 3, 4, 5)
	checkRejected(t, list(5, 901, 3, 3101, 4, 901, 2, 1829), 2, 3, 4, 5)
	checkRejected(t, list(11, 1, 5, 700, 10, 1, 3, 2810, 0, 1, 4, 700, 6, 1, 2, 2800), 0, 2, 3, 4, 5, 6, 10, 11)
}

// P14.2: the second comparison, of Air and Dew that may be beyond the gross limits.
func TestCheckOfDew(t *testing.T) {
	checkRejected(t, list(2, 1830, 3, 1830))
	checkRejected(t, list(2, 1830, 3, 3100), 2, 3)
	checkRejected(t, list(2, 3300, 3, 3100))
	checkRejected(t, list(2, 3300, 3, 1830))
	checkRejected(t, list(2, 3300, 3, 3101), 3)
	checkRejected(t, list(2, 3300, 3, 3300), 3)
	checkRejected(t, list(2, 3300, 3, 3301), 2, 3)
	checkRejected(t, list(2, 3301, 3, 3000), 2)
	checkRejected(t, list(2, 1829, 3, 1829), 2, 3)
	checkRejected(t, list(2, 1829, 3, 1830), 2, 3)
	checkRejected(t, list(2, 1830, 3, 1829), 3)
	checkRejected(t, list(2, -2800, 3, 2700), 2, 3)
	checkRejected(t, list(2, 2800, 3, -2900), 3)
	checkRejected(t, list(2, 2800))
	checkRejected(t, list(3, 2800))
	// Other temperatures are not compared.
	checkRejected(t, list(2, 2800, 7, 2900, 9, 2900, 11, 2810))
	checkRejected(t, list(3, 2800, 7, 2700, 9, 2600, 11, 2500))
}

// P14.2: the third comparison, on both sides of its limit.
func TestCheckOfWind(t *testing.T) {
	for _, x := range []struct {
		east, north int
		rejected    bool
	}{
		{0, 900, false}, {900, 0, false}, {1, 900, true}, {900, 1, true},
		{540, 720, false}, {720, 540, false}, {541, 720, true}, {720, 541, true}, {540, 721, true}, {721, 540, true},
		{636, 636, false}, {636, 637, true}, {637, 636, true}, {637, 637, true}, {900, 900, true}, {0, 0, false},
	} {
		var want []int
		if x.rejected {
			want = []int{4, 5}
		}
		for _, sign := range [][2]int{{1, 1}, {1, -1}, {-1, 1}, {-1, -1}} {
			checkRejected(t, list(4, sign[0]*x.east, 5, sign[1]*x.north), want...)
		}
	}
	checkRejected(t, list(4, 901, 5, 0), 4, 5)
	checkRejected(t, list(4, 0, 5, -901), 4, 5)
	checkRejected(t, list(4, 901), 4)
	checkRejected(t, list(5, -901), 5)
	checkRejected(t, list(4, 900))
	checkRejected(t, list(5, 900, 6, 1500))
	checkRejected(t, list(4, 700, 4, 700))
}

// P14.2: the first readings alone are compared with each other.
func TestCheckOfFirstReadings(t *testing.T) {
	checkRejected(t, list(2, 2800, 3, 2700, 3, 2900))
	checkRejected(t, list(2, 2800, 3, 2700, 2, 2600))
	checkRejected(t, list(2, 2800, 3, 2900, 3, 2700), 2, 3)
	checkRejected(t, list(2, 2600, 3, 2700, 2, 2800), 2, 3)
	checkRejected(t, list(3, 2900, 3, 2700, 2, 2800), 2, 3)
	checkRejected(t, list(4, 700, 4, 0, 5, 700, 5, 0), 4, 5)
	checkRejected(t, list(4, 0, 5, 0, 4, 700, 5, 700))
	checkRejected(t, list(4, 0, 4, 700, 5, 700))
	checkRejected(t, list(5, 0, 5, 700, 4, 700))
	checkRejected(t, list(5, 700, 5, 0, 4, 700), 4, 5)
	// A first reading that is beyond the gross limits is compared nevertheless.
	checkRejected(t, list(2, 1000, 2, 2800, 3, 2700), 2, 3)
	checkRejected(t, list(2, 4000, 2, 2600, 3, 2700), 2)
	checkRejected(t, list(4, 1000, 4, 0, 5, 0), 4, 5)
}

// P14.2: readings with great values take no part in the second and the third comparison.
func TestCheckOfGreatValues(t *testing.T) {
	checkRejected(t, list(2, 2800, 3, 100000), 2, 3)
	checkRejected(t, list(2, -100000, 3, 2800), 2, 3)
	checkRejected(t, list(2, -100000, 3, 100000), 2, 3)
	checkRejected(t, list(2, 99999, 3, 100000), 2, 3)
	checkRejected(t, list(4, 100000, 5, 0), 4, 5)
	checkRejected(t, list(4, 0, 5, -100000), 4, 5)
	checkRejected(t, list(4, -100000, 5, 100000), 4, 5)
	for _, great := range []int{100001, 100002, 1 << 31, 1 << 32, 3 << 32, 1<<62 + 5, most} {
		checkRejected(t, list(2, 2800, 3, great), 3)
		checkRejected(t, list(2, 2800, 3, -great), 3)
		checkRejected(t, list(2, -great, 3, 2800), 2)
		checkRejected(t, list(2, great, 3, 2800), 2)
		for _, sign := range []int{1, -1} {
			checkRejected(t, list(4, sign*great, 5, 0), 4)
			checkRejected(t, list(4, 0, 5, sign*great), 5)
			checkRejected(t, list(4, sign*great, 5, 900), 4)
			checkRejected(t, list(4, 900, 5, sign*great), 5)
			checkRejected(t, list(4, sign*great, 5, great), 4, 5)
		}
	}
	checkRejected(t, list(2, least, 3, 2800), 2)
	checkRejected(t, list(2, 2800, 3, least), 3)
	checkRejected(t, list(4, least, 5, 0), 4)
	checkRejected(t, list(4, 0, 5, least), 5)
}

// P14.2: behind a reading that takes no part, the next one of its element is the first that does.
func TestCheckOfReadingsBehindGreatValues(t *testing.T) {
	checkRejected(t, list(3, 100001, 3, 2900, 2, 2800), 2, 3)
	checkRejected(t, list(3, 100001, 3, 2700, 2, 2800), 3)
	checkRejected(t, list(2, most, 3, 2900, 2, 2800), 2, 3)
	checkRejected(t, list(2, least, 3, 2700, 2, 2800), 2)
	checkRejected(t, list(4, most, 4, 700, 5, least, 5, 700), 4, 5)
	checkRejected(t, list(4, most, 4, 0, 5, 700), 4)
}

// contradicted reports whether the first readings of two elements that are not too great contradict each other, computed without bounds.
func contradicted(l []api.Reading, code, other int, wrong func(x, y *big.Int) bool) bool {
	values := map[int]*big.Int{}
	for _, r := range slices.Backward(l) {
		value := big.NewInt(int64(r.Value))
		if new(big.Int).Abs(value).Cmp(big.NewInt(100000)) <= 0 {
			values[r.Element] = value
		}
	}
	x, y := values[code], values[other]
	return x != nil && y != nil && wrong(x, y)
}

// rejected returns what Check should return, from the limits of the chapter.
func rejected(l []api.Reading) []int {
	found := map[int]bool{}
	for _, r := range l {
		b, exists := grossLimits[r.Element]
		if !exists || r.Value < b[0] || r.Value > b[1] {
			found[r.Element] = true
		}
	}
	if contradicted(l, api.Air, api.Dew, func(x, y *big.Int) bool { return x.Cmp(y) < 0 }) {
		found[api.Air], found[api.Dew] = true, true
	}
	if contradicted(l, api.East, api.North, func(x, y *big.Int) bool {
		sum := new(big.Int).Add(new(big.Int).Mul(x, x), new(big.Int).Mul(y, y))
		return sum.Cmp(big.NewInt(810000)) > 0
	}) {
		found[api.East], found[api.North] = true, true
	}
	var codes []int
	for code := range found {
		codes = append(codes, code)
	}
	slices.Sort(codes)
	return codes
}

// randomValue returns a value that is often near to a limit of the element.
func randomValue(random *rand.Rand, code int) int {
	b := grossLimits[code]
	switch random.Intn(12) {
	case 0:
		return []int{least, most, 1 << 32, -1 << 32, 100000, -100000, 100001, -100001, 0}[random.Intn(9)]
	case 1:
		return b[random.Intn(2)] + random.Intn(5) - 2
	}
	return b[0] + random.Intn(b[1]-b[0]+1)
}

// P14.2: against the limits of the chapter, for lists of few and of many elements.
func TestCheck(t *testing.T) {
	random := rand.New(rand.NewSource(14))
	seen := map[int]int{}
	for range 100000 {
		var l []api.Reading
		for range random.Intn(8) {
			code := random.Intn(4) + 2
			if random.Intn(3) == 0 {
				code = random.Intn(15) - 1
			}
			l = append(l, api.Reading{Element: code, Value: randomValue(random, code)})
		}
		want := rejected(l)
		checkRejected(t, l, want...)
		seen[len(want)]++
	}
	for n := range 5 {
		if seen[n] < 100 {
			t.Errorf("only %d lists of which %d elements are rejected", seen[n], n)
		}
	}
}

// P14.2: long lists, of few elements and of many.
func TestCheckOfManyReadings(t *testing.T) {
	var l []api.Reading
	for i := range 200000 {
		l = append(l, list(i%11+1, 0)...)
	}
	checkRejected(t, l, 1, 2, 3, 6, 7, 8, 9, 10, 11)
	for i := range l {
		l[i].Element = i
	}
	if got := Check(l); len(got) != len(l)-2 || got[0] != 0 || got[3] != 3 || got[4] != 6 {
		t.Errorf("Check of readings of all codes up to %d rejects %d", len(l)-1, len(got))
	}
}

// A result is new memory: changing it does not change another one.
func TestCheckReturnsNewMemory(t *testing.T) {
	l := list(2, 2800, 3, 2810, 4, 700, 5, 700)
	got := Check(l)
	for i := range got {
		got[i] = 77
	}
	checkRejected(t, l, 2, 3, 4, 5)
}
