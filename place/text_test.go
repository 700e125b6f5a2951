package place

import (
	"fmt"
	"testing"

	"synoptic/api"
)

// checkText compares the text of a valid place with what is expected, and reads it.
func checkText(t *testing.T, p api.Place, want string) {
	t.Helper()
	if got, e := Format(p); got != want || e != api.OK {
		t.Errorf("Format(%v) = %q, %d, not %q", p, got, e, want)
	}
	if got, e := Parse(want); got != p || e != api.OK {
		t.Errorf("Parse(%q) = %v, %d, not %v", want, got, e, p)
	}
}

// P2.3: the example, the ends of the ranges, and places that are not normal.
func TestText(t *testing.T) {
	for want, p := range map[string]api.Place{
		"05420420": at(5, 420, 420, 0),
		"14000420": at(14, 0, 420, 420),
		"01000840": at(1, 0, 840, 0),
		"00000000": at(0, 0, 0, 840),
		"00840000": at(0, 840, 0, 0),
		"19000000": at(19, 0, 0, 840),
		"19840000": at(19, 840, 0, 0),
		"10005070": at(10, 5, 70, 765),
	} {
		checkText(t, p, want)
	}
}

// P2.3
func TestTextOfPlacesOnEveryFace(t *testing.T) {
	for face := range faces {
		for a := 0; a <= api.Unit; a += 3 {
			for b := face % 3; b <= api.Unit-a; b += 7 {
				checkText(t, at(face, a, b, api.Unit-a-b), fmt.Sprintf("%02d%03d%03d", face, a, b))
			}
		}
	}
}

// P2.3
func TestFormatOfInvalidPlaces(t *testing.T) {
	for _, p := range invalidPlaces {
		if got, e := Format(p); got != "" || e != api.ErrRange {
			t.Errorf("Format(%v) = %q, %d, not ErrRange", p, got, e)
		}
	}
}

func checkNoText(t *testing.T, s string) {
	t.Helper()
	if got, e := Parse(s); got != (api.Place{}) || e != api.ErrSyntax {
		t.Errorf("Parse(%q) = %v, %d, not ErrSyntax", s, got, e)
	}
}

// P2.3
func TestParseOfOtherTexts(t *testing.T) {
	for _, s := range []string{
		"",
		"0",
		"5420420",
		"0542042",
		"054204200",
		"005420420",
		"05420420 ",
		" 05420420",
		" 5420420",
		"05 20420",
		"0542042\n",
		"20000000",
		"99000000",
		"05841000",
		"05000841",
		"05420421",
		"05421420",
		"05840001",
		"05001840",
		"05999999",
		"-5420420",
		"+5420420",
		"05-20420",
		"05+20420",
		"05420-20",
		"05420+20",
		"0542042a",
		"0x420420",
		"05_20420",
		"05.20420",
		"0542042\x00",
		"054204\u0660",
		"05420420\u0660",
		"\u0660\u0665\u0664\u0662",
		// The bytes around the digits stand for 10 and for -1: sums of them give places.
		"05:20420",
		"0:420420",
		"1/420420",
		"0542/420",
		"0542042:",
		"0542042/",
	} {
		checkNoText(t, s)
	}
}

// P2.3: a text in which one byte is replaced is either no text or that of another place.
func TestParseWithOneByteReplaced(t *testing.T) {
	const text = "12310215"
	for i := range len(text) {
		for b := range 256 {
			s := text[:i] + string([]byte{byte(b)}) + text[i+1:]
			p, e := Parse(s)
			if e != api.OK {
				checkNoText(t, s)
				continue
			}
			if got, _ := Format(p); got != s {
				t.Errorf("Parse(%q) = %v, and this is %q", s, p, got)
			}
		}
	}
}

// P2.3: of all numbers with eight digits near the limits, those are texts whose parts give a place.
func TestParseAtTheLimits(t *testing.T) {
	for face := range 100 {
		for _, a := range []int{0, 1, 419, 420, 421, 839, 840, 841, 999} {
			for _, b := range []int{0, 1, 419, 420, 421, 839, 840, 841, 999} {
				s := fmt.Sprintf("%02d%03d%03d", face, a, b)
				if face < api.Faces && a+b <= api.Unit {
					checkText(t, at(face, a, b, api.Unit-a-b), s)
				} else {
					checkNoText(t, s)
				}
			}
		}
	}
}
