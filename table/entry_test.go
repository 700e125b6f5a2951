package table

import (
	"math/big"
	"math/rand"
	"testing"

	"synoptic/api"
)

// expectedNumber returns the number that stands for a value by the words of the chapter, with numbers of any size.
func expectedNumber(e api.Entry, value int) (int, api.Errno) {
	difference := new(big.Int).Sub(big.NewInt(int64(value)), big.NewInt(int64(e.Least)))
	// As the divisor is positive, Div rounds down.
	n := difference.Div(difference, big.NewInt(int64(e.Scale)))
	end := new(big.Int).Lsh(big.NewInt(1), uint(e.Width))
	end.Sub(end, big.NewInt(2))
	if n.Sign() < 0 || n.Cmp(end) > 0 {
		return 0, api.ErrRange
	}
	return int(n.Int64()), api.OK
}

func checkEncode(t *testing.T, e api.Entry, value, want int, fault api.Errno) {
	t.Helper()
	if got, f := Encode(e, value); got != want || f != fault {
		t.Errorf("Encode(%v, %d) = %d, %d, not %d, %d", e, value, got, f, want, fault)
	}
}

func checkDecode(t *testing.T, e api.Entry, n, want int, found bool) {
	t.Helper()
	if got, ok := Decode(e, n); got != want || ok != found {
		t.Errorf("Decode(%v, %d) = %d, %v, not %d, %v", e, n, got, ok, want, found)
	}
}

// P8.4: the example of the chapter.
func TestEncodeOfExample(t *testing.T) {
	e := api.Entry{Code: 7, Element: 1, Width: 10, Scale: 5, Least: 8000}
	for value := 7900; value <= 13200; value++ {
		if value < 8000 || value > 13114 {
			checkEncode(t, e, value, 0, api.ErrRange)
		} else {
			checkEncode(t, e, value, (value-8000)/5, api.OK)
		}
	}
	for n := -20; n <= 2000; n++ {
		if n < 0 || n > 1022 {
			checkDecode(t, e, n, 0, false)
		} else {
			checkDecode(t, e, n, 8000+5*n, true)
		}
	}
}

// P8.4: values around both ends of what each entry can write, and values far from them.
func TestEncode(t *testing.T) {
	random := rand.New(rand.NewSource(1))
	for _, e := range limitEntries() {
		end := e.Least + e.Scale*(1<<e.Width-1)
		values := []int{least, least + 1, least + e.Scale, -1 << 32, 1 << 32, 1<<40 + e.Least, most - e.Scale, most - 1, most}
		for i := -3; i <= 3; i++ {
			values = append(values, e.Least+i, e.Least+e.Scale+i, end-e.Scale+i, end+i, end+e.Scale+i, i)
		}
		for range 5 {
			values = append(values, e.Least+random.Intn(end-e.Least))
		}
		for _, value := range values {
			want, fault := expectedNumber(e, value)
			checkEncode(t, e, value, want, fault)
		}
	}
}

// P8.4: numbers around both ends, and numbers far from them.
func TestDecode(t *testing.T) {
	random := rand.New(rand.NewSource(2))
	for _, e := range limitEntries() {
		end := 1<<e.Width - 1
		numbers := []int{least, least + 1, -1 << 32, -2, -1, 0, 1, 2, end - 2, end - 1, end, end + 1, end + 2, 2*end + 1, 1 << 24, 1<<24 - 1, 1 << 32, 1<<32 + 1, most - 1, most}
		for range 5 {
			numbers = append(numbers, random.Intn(end))
		}
		for _, n := range numbers {
			if n >= 0 && n <= end-1 {
				checkDecode(t, e, n, e.Least+e.Scale*n, true)
			} else {
				checkDecode(t, e, n, 0, false)
			}
		}
	}
}

// P8.4: values behind the range of the element are written all the same, if there is a number for them.
func TestEncodeOfValuesBehindTheElement(t *testing.T) {
	checkEncode(t, api.Entry{Code: 1, Element: api.Pressure, Width: 24, Scale: 1, Least: -100000}, -99999, 1, api.OK)
	checkEncode(t, api.Entry{Code: 1, Element: api.Air, Width: 20, Scale: 2, Least: 1801}, 900000, 449099, api.OK)
}

// P8.4: entries that are not valid, with values and numbers that would do otherwise.
func TestEncodeOfInvalidEntries(t *testing.T) {
	l := faultyEntries()
	for _, n := range noElements {
		e := good(7)
		e.Element = n
		l = append(l, e)
	}
	for _, e := range append(l, api.Entry{}) {
		for _, value := range []int{least, -1, 0, 1, 7999, 8000, 8001, 8005, 13114, e.Least, e.Least + 1, 100001, most} {
			checkEncode(t, e, value, 0, api.ErrRange)
			checkDecode(t, e, value, 0, false)
		}
		for n := range 5 {
			checkDecode(t, e, n, 0, false)
		}
	}
}

// The consequence: Decode of Encode is at most the value, and differs from it by less than Scale.
func TestDecodeOfEncode(t *testing.T) {
	random := rand.New(rand.NewSource(3))
	for range 20000 {
		e := api.Entry{Code: 1 + random.Intn(9999), Element: 1 + random.Intn(11), Width: 2 + random.Intn(23), Scale: 1 + random.Intn(1000), Least: random.Intn(200001) - 100000}
		value := e.Least + random.Intn(e.Scale*(1<<e.Width-1))
		n, f := Encode(e, value)
		got, ok := Decode(e, n)
		if f != api.OK || !ok || got > value || value-got >= e.Scale {
			t.Fatalf("Encode(%v, %d) = %d, %d; Decode = %d, %v", e, value, n, f, got, ok)
		}
		if again, f := Encode(e, got); f != api.OK || again != n {
			t.Fatalf("Encode(%v, %d) = %d, %d, not %d", e, got, again, f, n)
		}
	}
}
