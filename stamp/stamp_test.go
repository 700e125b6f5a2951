package stamp

import (
	"fmt"
	"math/rand"
	"testing"
	"time"

	"synoptic/api"
	"synoptic/clock"
)

const (
	least = -1 << 63
	most  = 1<<63 - 1
)

// textOf returns the stamp of a minute, by the calendar of Go's library.
func textOf(minute int) string {
	return time.Date(2000, 1, 1, 0, minute, 0, 0, time.UTC).Format("021504")
}

// P5.2 and P6.1
func TestFormat(t *testing.T) {
	for minute, want := range map[int]string{0: "010000", 1: "010001", 61: "010101", 84960: "290000", 84960 + 23*60 + 59: "292359", api.MaxMinute: "312359"} {
		if got, e := Format(minute); got != want || e != api.OK {
			t.Errorf("Format(%d) = %q, %d, not %q", minute, got, e, want)
		}
	}
	for minute := 0; minute <= api.MaxMinute; minute += 977 {
		if got, e := Format(minute); got != textOf(minute) || e != api.OK {
			t.Fatalf("Format(%d) = %q, %d, not %q", minute, got, e, textOf(minute))
		}
	}
	for _, minute := range []int{-1, api.MaxMinute + 1, 1 << 32, least, most} {
		if got, e := Format(minute); got != "" || e != api.ErrRange {
			t.Errorf("Format(%d) = %q, %d, not the error %d", minute, got, e, api.ErrRange)
		}
	}
}

// P5.3 and P6.2: all numbers of six digits whose minutes are near the limits.
func TestParseOfAllDigits(t *testing.T) {
	const near = 12345678
	for day := range 100 {
		for hour := range 100 {
			for _, minute := range []int{0, 1, 9, 10, 59, 60, 99} {
				s := fmt.Sprintf("%02d%02d%02d", day, hour, minute)
				want, e := clock.Resolve(day, hour, minute, near)
				if e != api.OK {
					e = api.ErrSyntax
				}
				if got, e2 := Parse(s, near); got != want || e2 != e {
					t.Errorf("Parse(%q, %d) = %d, %d, not %d, %d", s, near, got, e2, want, e)
				}
			}
		}
	}
}

// P5.3 and P6.2: a stamp is that of the minute near every minute that is less than 14 days away.
func TestParseWithin14Days(t *testing.T) {
	random := rand.New(rand.NewSource(1))
	for range 20000 {
		minute := random.Intn(api.MaxMinute + 1)
		near := min(max(minute-20159+random.Intn(2*20159+1), 0), api.MaxMinute)
		if got, e := Parse(textOf(minute), near); got != minute || e != api.OK {
			t.Fatalf("Parse(%q, %d) = %d, %d, not %d", textOf(minute), near, got, e, minute)
		}
	}
}

// P5.3 and P6.2
func TestParseOfOtherTexts(t *testing.T) {
	for _, s := range []string{"", "1", "16172", "1617200", "161720161720", "-61720", "+61720", "16-720", "1617+1", " 61720", "16172 ", "161720 ", " 161720", "16 720", "16:720", "1/:720", "0:1720", "16172:", "1617/:", "1_1720", "1617x1", "0x1720", "1617\u0662", "\u0661\u0666\u0661", "161720\n", "16172\n", "161720\x00", "16172\xff", "\xff\xff\xff\xff\xff\xff"} {
		if got, e := Parse(s, 12345678); got != 0 || e != api.ErrSyntax {
			t.Errorf("Parse(%q, 12345678) = %d, %d, not the error %d", s, got, e, api.ErrSyntax)
		}
	}
}

// P5.3 and P6.2: each byte at each position.
func TestParseWithOneByteChanged(t *testing.T) {
	const near = 12345678
	for i := range 6 {
		for b := range 256 {
			s := []byte("161720")
			s[i] = byte(b)
			got, e := Parse(string(s), near)
			if e == api.OK && textOf(got) != string(s) || e != api.OK && (got != 0 || e != api.ErrSyntax) {
				t.Errorf("Parse(%q, %d) = %d, %d", s, near, got, e)
			}
		}
	}
}

// P5.3 and P6.2
func TestParseOutOfRange(t *testing.T) {
	for _, s := range []string{"161720", "000000", "", "x"} {
		for _, near := range []int{-1, api.MaxMinute + 1, 1 << 32, least, most} {
			if got, e := Parse(s, near); got != 0 || e != api.ErrRange {
				t.Errorf("Parse(%q, %d) = %d, %d, not the error %d", s, near, got, e, api.ErrRange)
			}
		}
	}
}
