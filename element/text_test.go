package element

import (
	"fmt"
	"slices"
	"testing"

	"synoptic/api"
)

// textOf returns the text of a reading by the table of this test, also of one that is not valid.
func textOf(r api.Reading) string {
	info := elements[r.Element]
	if r.Value < 0 {
		return fmt.Sprintf("%s-%0*d", info.Letter, info.Digits, -r.Value)
	}
	return fmt.Sprintf("%s%0*d", info.Letter, info.Digits, r.Value)
}

// checkText compares the text of a valid reading with what is expected, and reads it.
func checkText(t *testing.T, r api.Reading, want string) {
	t.Helper()
	if got, e := Format(r); got != want || e != api.OK {
		t.Errorf("Format(%v) = %q, %d, not %q", r, got, e, want)
	}
	if got, e := Parse(want); got != r || e != api.OK {
		t.Errorf("Parse(%q) = %v, %d, not %v", want, got, e, r)
	}
}

func checkNoText(t *testing.T, s string) {
	t.Helper()
	if got, e := Parse(s); got != (api.Reading{}) || e != api.ErrSyntax {
		t.Errorf("Parse(%q) = %v, %d, not ErrSyntax", s, got, e)
	}
}

// P4.4: the examples, values with leading zeros, and the ends of the ranges.
func TestText(t *testing.T) {
	for want, r := range map[string]api.Reading{
		"P10132": reading(api.Pressure, 10132),
		"P08000": reading(api.Pressure, 8000),
		"P09999": reading(api.Pressure, 9999),
		"P11000": reading(api.Pressure, 11000),
		"T1800":  reading(api.Air, 1800),
		"T2815":  reading(api.Air, 2815),
		"D3300":  reading(api.Dew, 3300),
		"E-0057": reading(api.East, -57),
		"E0057":  reading(api.East, 57),
		"E0000":  reading(api.East, 0),
		"E-0001": reading(api.East, -1),
		"E-1000": reading(api.East, -1000),
		"E1000":  reading(api.East, 1000),
		"N-0999": reading(api.North, -999),
		"N0010":  reading(api.North, 10),
		"A0900":  reading(api.H850, 900),
		"A1700":  reading(api.H850, 1700),
		"B3200":  reading(api.T850, 3200),
		"F2400":  reading(api.H700, 2400),
		"G3000":  reading(api.T700, 3000),
		"J6200":  reading(api.H500, 6200),
		"K2000":  reading(api.T500, 2000),
	} {
		checkText(t, r, want)
	}
}

// P4.4 and the consequence: readings and texts correspond to each other.
func TestTextOfAllReadings(t *testing.T) {
	seen := map[string]api.Reading{}
	for code, info := range elements {
		for value := info.Least; value <= info.Most; value++ {
			r := reading(code, value)
			checkText(t, r, textOf(r))
			if other, found := seen[textOf(r)]; found {
				t.Errorf("%v and %v have the same text", r, other)
			}
			seen[textOf(r)] = r
		}
	}
}

// P4.4
func TestFormatOfInvalidReadings(t *testing.T) {
	for code, info := range elements {
		for _, value := range []int{info.Least - 1, info.Most + 1, info.Least - 1000, 100000, -100000, 1<<32 + info.Most, least, least + 1, most} {
			if got, e := Format(reading(code, value)); got != "" || e != api.ErrRange {
				t.Errorf("Format of the value %d of %d is %q, %d, not ErrRange", value, code, got, e)
			}
		}
	}
	for _, code := range noElements {
		for _, value := range []int{0, 2800, least, most} {
			if got, e := Format(reading(code, value)); got != "" || e != api.ErrKind {
				t.Errorf("Format of the value %d of %d is %q, %d, not ErrKind", value, code, got, e)
			}
		}
	}
}

// P4.4: those at the beginning are the example of the chapter.
func TestParseOfOtherTexts(t *testing.T) {
	for _, s := range []string{
		"T02815", "E-0000", "E0057x",
		"", "P", "E-", "-", "0", "E", "10132", "-0057", "2815", "\x00", "\xff",
		"X2815", "p10132", "t2815", "e-0057", "02815", " 2815", "+2815", "Р10132", "Т2815",
		"P1013", "P8000", "P010132", "P101320", "P9999", "T281", "T28150", "T281 ", "A900", "A00900",
		"E57", "E-57", "E057", "E-057", "E00057", "E-00057", "E0", "E-0", "E00", "E-00", "E-00000",
		"E+0057", "E+057", "E +057", "E--057", "E--0057", "E-+0057", "E-+057", "E+-0057", "E0-057", "E0057-", "E 0057", "E- 0057", "E -0057", "-E0057",
		"P+0132", "P+10132", "P-10132", "T-2815", "T-815", "A-0900", "P-08000",
		" P10132", "P10132 ", "P 10132", "P10132\n", "\nP10132", "P10132\x00", "P1013\x00", "P10132 T2815", "P10132T2815",
		"T0x0a", "T0b11", "T0o77", "T2_15", "T2_815", "T2.815", "T2,81", "T2e3", "T28e1", "P1e100", "T281O", "T28l5", "Tabcd",
		"P07999", "P11001", "P00000", "P99999", "T1799", "T3301", "D1799", "D3301", "E1001", "E-1001", "N1001", "N-1001", "N-9999",
		"A0899", "A1701", "B1999", "B3201", "F2399", "F3401", "G1999", "G3001", "J4399", "J6201", "K1999", "K2901",
		"T\u0662\u0668\u0661\u0665", "T281\u0665", "T\u0662815", "E\u22120057", "E\u20130057",
		// The bytes around the digits stand for 10 and for -1: sums of them give values.
		"T28:5", "T281:", "T282/", "T29/5", "T/815", "E-00:0", "P0:132", "P1013/",
		// Their numbers wrap around to a value, in 32 bits or in 64.
		"T4294970111", "T18446744073709554431", "E-18446744073709551559", "E18446744073709551616", "T9223372036854775807", "T-9223372036854775808", "T99999999999999999999999999",
	} {
		checkNoText(t, s)
	}
}

// P4.4: a text in which one byte is replaced, left out or put in is either no text or that of another reading.
func TestParseOfChangedTexts(t *testing.T) {
	for code, info := range elements {
		for _, value := range []int{info.Least, (info.Least+info.Most)/2 + 7, info.Most} {
			text := textOf(reading(code, value))
			for i := range len(text) + 1 {
				for b := range 256 {
					checkOtherText(t, text[:i]+string([]byte{byte(b)})+text[i:])
					if i < len(text) {
						checkOtherText(t, text[:i]+string([]byte{byte(b)})+text[i+1:])
					}
				}
				if i < len(text) {
					checkOtherText(t, text[:i]+text[i+1:])
				}
			}
		}
	}
}

// checkOtherText checks that a text has the reading of the table of this test that it is written like, or else none.
func checkOtherText(t *testing.T, s string) {
	t.Helper()
	got, e := Parse(s)
	if e != api.OK {
		checkNoText(t, s)
	} else if expectedError([]api.Reading{got}) != api.OK || textOf(got) != s {
		t.Errorf("Parse(%q) = %v, and this is %q", s, got, textOf(got))
	}
}

// P4.4: of all letters with a number of four or five digits and any sign, those of valid values with the right number of digits are texts.
func TestParseOfAllNumbers(t *testing.T) {
	valid := map[string]api.Reading{}
	for code, info := range elements {
		for value := info.Least; value <= info.Most; value++ {
			valid[textOf(reading(code, value))] = reading(code, value)
		}
	}
	var numbers []string
	for n := range 12000 {
		four := fmt.Sprintf("%04d", n)
		numbers = append(numbers, four, "-"+four)
		if n < 10000 {
			numbers = append(numbers, "0"+four, "-0"+four)
		}
	}
	count := 0
	for _, letter := range slices.Concat([]string{"X", "0", "-"}, lettersOf()) {
		for _, n := range numbers {
			want, found := valid[letter+n]
			if !found {
				checkNoText(t, letter+n)
				continue
			}
			count++
			checkText(t, want, letter+n)
		}
	}
	if count != len(valid) {
		t.Errorf("%d texts of %d are among the numbers", count, len(valid))
	}
}

// lettersOf returns the letters of the table of this test.
func lettersOf() []string {
	var all []string
	for _, info := range elements {
		all = append(all, info.Letter)
	}
	return all
}
