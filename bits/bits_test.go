package bits

import (
	"fmt"
	"math/rand"
	"slices"
	"strconv"
	"strings"
	"testing"

	"synoptic/api"
)

const (
	least = -1 << 63
	most  = 1<<63 - 1
)

// digits returns the text of a number with the width, which is what Append has to add to a text of bits.
func digits(value, width int) string {
	s := strconv.FormatInt(int64(value), 2)
	return strings.Repeat("0", width-len(s)) + s
}

// list returns the list of the bits that a text of 0 and 1 contains, by other means than the package.
func list(text string) api.Bits {
	b := api.Bits{Len: len(text)}
	for len(text) > 0 {
		head := text[:min(8, len(text))]
		text = text[len(head):]
		n, err := strconv.ParseUint(head+strings.Repeat("0", 8-len(head)), 2, 8)
		if err != nil {
			panic(err)
		}
		b.Bytes = append(b.Bytes, byte(n))
	}
	return b
}

// text returns the text of a list's bits.
func text(b api.Bits) string {
	s := ""
	for _, c := range b.Bytes {
		s += fmt.Sprintf("%08b", c)
	}
	return s[:b.Len]
}

// anyText returns a text of random bits.
func anyText(random *rand.Rand, length int) string {
	s := make([]byte, length)
	for i := range s {
		s[i] = byte('0' + random.Intn(2))
	}
	return string(s)
}

// allTexts returns all texts of up to so many bits.
func allTexts(longest int) []string {
	l := []string{""}
	for length := 1; length <= longest; length++ {
		for n := range 1 << length {
			l = append(l, digits(n, length))
		}
	}
	return l
}

// invalid returns lists that are not valid, each with one fault.
func invalid() []api.Bits {
	l := []api.Bits{
		{Len: 1}, {Len: 8}, {Len: 9, Bytes: make([]byte, 1)}, {Len: api.MaxBits},
		{Bytes: make([]byte, 1)}, {Len: 8, Bytes: make([]byte, 2)}, {Len: 7, Bytes: make([]byte, 2)},
		{Len: -1}, {Len: -1, Bytes: make([]byte, 1)}, {Len: -7}, {Len: -8}, {Len: -8, Bytes: make([]byte, 1)}, {Len: least}, {Len: least, Bytes: []byte{1}},
		{Len: most}, {Len: most, Bytes: []byte{1}}, {Len: most - 6}, {Len: 1 << 32}, {Len: 1<<32 + 8, Bytes: []byte{0}},
		{Len: 1, Bytes: []byte{1}}, {Len: 1, Bytes: []byte{64}}, {Len: 7, Bytes: []byte{255}}, {Len: 7, Bytes: []byte{1}}, {Len: 9, Bytes: []byte{0, 64}}, {Len: 12, Bytes: []byte{255, 255}}, {Len: 15, Bytes: []byte{0, 1}},
		{Len: api.MaxBits + 1, Bytes: make([]byte, api.MaxBits/8+1)}, {Len: api.MaxBits + 1, Bytes: make([]byte, api.MaxBits/8)}, {Len: api.MaxBits + 8, Bytes: make([]byte, api.MaxBits/8+1)}, {Len: 2 * api.MaxBits, Bytes: make([]byte, api.MaxBits/4)},
		{Len: api.MaxBits, Bytes: make([]byte, api.MaxBits/8+1)}, {Len: api.MaxBits, Bytes: make([]byte, api.MaxBits/8-1)},
	}
	for length := range 8 {
		full := make([]byte, api.MaxBits/8)
		full[len(full)-1] = 1 << (7 - length)
		l = append(l, api.Bits{Len: api.MaxBits - 8 + length, Bytes: full})
	}
	return l
}

// check compares a result with the list of a text, and with the zero value if there is an error.
func check(t *testing.T, name string, got api.Bits, e api.Errno, want string, fault api.Errno) {
	t.Helper()
	switch {
	case e != fault:
		t.Errorf("%s: the error %d, not %d", name, e, fault)
	case e != api.OK:
		if got.Len != 0 || len(got.Bytes) != 0 {
			t.Errorf("%s: %d bits with the error %d", name, got.Len, e)
		}
	case got.Len != len(want) || !slices.Equal(got.Bytes, list(want).Bytes):
		t.Errorf("%s: %d bits %v, not those of %q", name, got.Len, got.Bytes, want)
	case !Valid(got):
		t.Errorf("%s: %v is not valid", name, got)
	}
}

// P7.1
func TestValid(t *testing.T) {
	for length := range 200 {
		for _, s := range []string{strings.Repeat("0", length), strings.Repeat("1", length)} {
			if !Valid(list(s)) {
				t.Errorf("the list of %q is not valid", s)
			}
		}
	}
	for length := api.MaxBits - 10; length <= api.MaxBits; length++ {
		if !Valid(list(strings.Repeat("1", length))) {
			t.Errorf("a list of %d bits is not valid", length)
		}
	}
	if !Valid(api.Bits{}) || !Valid(api.Bits{Bytes: []byte{}}) {
		t.Errorf("an empty list is not valid")
	}
	for i, b := range invalid() {
		if Valid(b) {
			t.Errorf("the list %d of %d bits and %d bytes is valid", i, b.Len, len(b.Bytes))
		}
	}
}

// P7.1: each length with each number of bytes, and each last byte.
func TestValidOfAllShortLists(t *testing.T) {
	for length := -20; length <= 40; length++ {
		for size := range 7 {
			for last := range 256 {
				b := api.Bits{Len: length, Bytes: slices.Repeat([]byte{255}, size)}
				if size > 0 {
					b.Bytes[size-1] = byte(last)
				}
				want := length >= 0 && length <= 8*size && length > 8*(size-1)
				for i := length; want && i < 8*size; i++ {
					want = last>>(7-i%8)&1 == 0
				}
				if Valid(b) != want {
					t.Fatalf("Valid(%v) = %v", b, !want)
				}
			}
		}
	}
}

// P7.1: also of lists that are not valid.
func TestSame(t *testing.T) {
	l := invalid()
	for _, s := range allTexts(9) {
		l = append(l, list(s))
	}
	for i, a := range l {
		for k, b := range l {
			b.Bytes = slices.Clone(b.Bytes)
			if Same(a, b) != (i == k) {
				t.Fatalf("Same(%v, %v) = %v", a, b, i != k)
			}
		}
	}
}

// P7.1 and rule 1
func TestSameOfEmptyLists(t *testing.T) {
	none, empty := api.Bits{}, api.Bits{Bytes: []byte{}}
	if !Same(none, none) || !Same(none, empty) || !Same(empty, none) || !Same(empty, empty) {
		t.Errorf("no bytes and an empty list are not the same")
	}
}

// P7.2: the examples of the chapter.
func TestAppendOfExamples(t *testing.T) {
	b, e := Append(api.Bits{}, 5, 3)
	if e != api.OK || b.Len != 3 || !slices.Equal(b.Bytes, []byte{160}) {
		t.Errorf("5 with the width 3: %v, %d", b, e)
	}
	b, e = Append(b, 1, 6)
	if e != api.OK || b.Len != 9 || !slices.Equal(b.Bytes, []byte{160, 128}) {
		t.Errorf("and 1 with the width 6: %v, %d", b, e)
	}
}

// P7.2: each number with each small width, behind lists of each length.
func TestAppendOfSmallNumbers(t *testing.T) {
	for length := range 18 {
		for _, before := range []string{strings.Repeat("0", length), strings.Repeat("1", length)} {
			for width := 1; width <= 10; width++ {
				for value := range 1 << width {
					got, e := Append(list(before), value, width)
					check(t, fmt.Sprintf("Append(%s, %d, %d)", before, value, width), got, e, before+digits(value, width), api.OK)
				}
			}
		}
	}
}

// P7.2: both ends of each width, and what is behind them.
func TestAppendOfAllWidths(t *testing.T) {
	const before = "10011"
	for width := -2; width <= 70; width++ {
		for _, value := range []int{least, -1 << 24, -2, -1, 0, 1, 2, 1<<(max(width, 1)-1) - 1, 1 << (max(width, 1) - 1), 1<<max(width, 0) - 1, 1 << max(width, 0), 1<<max(width, 0) + 1, 1 << 32, 1<<32 + 1, most} {
			want, fault := "", api.ErrRange
			if width >= 1 && width <= 24 && value >= 0 && value < 1<<width {
				want, fault = before+digits(value, width), api.OK
			}
			got, e := Append(list(before), value, width)
			check(t, fmt.Sprintf("Append(%s, %d, %d)", before, value, width), got, e, want, fault)
		}
	}
	for _, width := range []int{least, least + 1, -1 << 32, 1 << 32, 1<<32 + 1, most - 1, most} {
		for _, value := range []int{least, -1, 0, 1, most} {
			got, e := Append(list(before), value, width)
			check(t, fmt.Sprintf("Append(%s, %d, %d)", before, value, width), got, e, "", api.ErrRange)
		}
	}
}

// P7.2: lists of up to MaxBits bits.
func TestAppendOfLongLists(t *testing.T) {
	random := rand.New(rand.NewSource(1))
	for room := range 27 {
		before := anyText(random, api.MaxBits-room)
		for width := 1; width <= 24; width++ {
			value := random.Intn(1 << width)
			want, fault := "", api.ErrLimit
			if width <= room {
				want, fault = before+digits(value, width), api.OK
			}
			got, e := Append(list(before), value, width)
			check(t, fmt.Sprintf("Append of %d with the width %d to a list with room for %d", value, width, room), got, e, want, fault)
		}
	}
}

// P7.2: of several errors, the first one named is returned.
func TestAppendReturnsTheFirstError(t *testing.T) {
	for _, b := range invalid() {
		for _, x := range [][2]int{{0, 1}, {1, 24}, {2, 1}, {-1, 3}, {0, 0}, {0, 25}, {least, least}, {most, most}} {
			got, e := Append(b, x[0], x[1])
			check(t, fmt.Sprintf("Append of %v to %d bits", x, b.Len), got, e, "", api.ErrState)
		}
	}
	full := list(strings.Repeat("1", api.MaxBits))
	for _, x := range [][2]int{{2, 1}, {-1, 3}, {8, 3}, {0, 0}, {0, -1}, {0, 25}, {1 << 24, 24}, {least, least}, {most, most}} {
		got, e := Append(full, x[0], x[1])
		check(t, fmt.Sprintf("Append of %v to a full list", x), got, e, "", api.ErrRange)
	}
	got, e := Append(full, 0, 1)
	check(t, "Append to a full list", got, e, "", api.ErrLimit)
}

// checkRead compares what Read returns with what is expected.
func checkRead(t *testing.T, b api.Bits, at, width, want int, fault api.Errno) {
	t.Helper()
	if got, e := Read(b, at, width); got != want || e != fault {
		t.Errorf("Read at %d with the width %d of %d bits: %d, %d, not %d, %d", at, width, b.Len, got, e, want, fault)
	}
}

// checkReads reads a list of a text at each position with each width.
func checkReads(t *testing.T, s string) {
	t.Helper()
	b := list(s)
	for at := -2; at <= len(s)+2; at++ {
		for width := -2; width <= 27; width++ {
			switch {
			case width < 1 || width > 24 || at < 0:
				checkRead(t, b, at, width, 0, api.ErrRange)
			case at+width > len(s):
				checkRead(t, b, at, width, 0, api.ErrShort)
			default:
				want, _ := strconv.ParseInt(s[at:at+width], 2, 64)
				checkRead(t, b, at, width, int(want), api.OK)
			}
		}
	}
}

// P7.3
func TestRead(t *testing.T) {
	for _, s := range allTexts(9) {
		checkReads(t, s)
	}
	random := rand.New(rand.NewSource(2))
	for range 20 {
		checkReads(t, anyText(random, random.Intn(100)))
		checkReads(t, strings.Repeat("1", random.Intn(100)))
	}
}

// P7.3: numbers far from all lists, whose sums wrap around.
func TestReadOfGreatNumbers(t *testing.T) {
	b := list("1011011101111")
	for _, at := range []int{14, 1 << 32, 1<<32 + 1, most - 24, most - 23, most - 1, most} {
		for width := 1; width <= 24; width++ {
			checkRead(t, b, at, width, 0, api.ErrShort)
			checkRead(t, api.Bits{}, at, width, 0, api.ErrShort)
		}
	}
	for _, n := range []int{least, least + 1, -1 << 32, -1} {
		for _, other := range []int{least, -1, 0, 1, 24, 25, most} {
			checkRead(t, b, n, other, 0, api.ErrRange)
			checkRead(t, b, other, n, 0, api.ErrRange)
		}
	}
	for _, width := range []int{25, 1 << 32, 1<<32 + 1, most} {
		for _, at := range []int{least, -1, 0, 1, 100, most} {
			checkRead(t, b, at, width, 0, api.ErrRange)
		}
	}
}

// P7.3: the last bits of the longest list.
func TestReadOfLongLists(t *testing.T) {
	s := anyText(rand.New(rand.NewSource(3)), api.MaxBits)
	b := list(s)
	for at := api.MaxBits - 30; at < api.MaxBits; at++ {
		for width := 1; width <= 24; width++ {
			if at+width > api.MaxBits {
				checkRead(t, b, at, width, 0, api.ErrShort)
				continue
			}
			want, _ := strconv.ParseInt(s[at:at+width], 2, 64)
			checkRead(t, b, at, width, int(want), api.OK)
		}
	}
}

// P7.3: a list that is not valid comes before all other errors.
func TestReadReturnsTheFirstError(t *testing.T) {
	for _, b := range invalid() {
		for _, x := range [][2]int{{0, 1}, {-1, 1}, {0, 0}, {0, 25}, {1 << 20, 24}, {least, least}, {most, most}, {most, 1}} {
			checkRead(t, b, x[0], x[1], 0, api.ErrState)
		}
	}
}

// P7.4: all pairs of short lists.
func TestJoin(t *testing.T) {
	l := allTexts(5)
	for _, length := range []int{6, 7, 8, 9, 15, 16, 17, 24, 31} {
		l = append(l, strings.Repeat("0", length), strings.Repeat("1", length), strings.Repeat("0", length-1)+"1")
	}
	for _, a := range l {
		for _, b := range l {
			got, e := Join(list(a), list(b))
			check(t, fmt.Sprintf("Join(%s, %s)", a, b), got, e, a+b, api.OK)
		}
	}
}

// P7.4: lists that are MaxBits bits together, or almost.
func TestJoinOfLongLists(t *testing.T) {
	random := rand.New(rand.NewSource(4))
	for _, length := range []int{0, 1, 7, 8, 9, 19999, 20000, 20001, 39991, 39992, 39993, 39999, 40000} {
		for more := -2; more <= 9; more++ {
			other := api.MaxBits - length + more
			if other < 0 || other > api.MaxBits {
				continue
			}
			a, b := anyText(random, length), anyText(random, other)
			want, fault := "", api.ErrLimit
			if more <= 0 {
				want, fault = a+b, api.OK
			}
			got, e := Join(list(a), list(b))
			check(t, fmt.Sprintf("Join of %d and %d bits", length, other), got, e, want, fault)
		}
	}
	full := list(strings.Repeat("1", api.MaxBits))
	got, e := Join(full, full)
	check(t, "Join of two full lists", got, e, "", api.ErrLimit)
}

// P7.4: a list that is not valid comes before the limit.
func TestJoinReturnsTheFirstError(t *testing.T) {
	full := list(strings.Repeat("1", api.MaxBits))
	for _, a := range invalid() {
		for _, b := range append(invalid(), api.Bits{}, list("1"), list("10101010"), full) {
			got, e := Join(a, b)
			check(t, fmt.Sprintf("Join of %d and %d bits", a.Len, b.Len), got, e, "", api.ErrState)
			got, e = Join(b, a)
			check(t, fmt.Sprintf("Join of %d and %d bits", b.Len, a.Len), got, e, "", api.ErrState)
		}
	}
}

// P7.4
func TestPad(t *testing.T) {
	for length := range 70 {
		for _, s := range []string{strings.Repeat("0", length), strings.Repeat("1", length)} {
			want := s
			for len(want)%8 != 0 {
				want += "0"
			}
			got, e := Pad(list(s))
			check(t, fmt.Sprintf("Pad(%s)", s), got, e, want, api.OK)
		}
	}
	for length := api.MaxBits - 20; length <= api.MaxBits; length++ {
		s := strings.Repeat("1", length)
		got, e := Pad(list(s))
		check(t, fmt.Sprintf("Pad of %d bits", length), got, e, s+strings.Repeat("0", (api.MaxBits-length)%8), api.OK)
	}
	for _, b := range invalid() {
		got, e := Pad(b)
		check(t, fmt.Sprintf("Pad of %d bits", b.Len), got, e, "", api.ErrState)
	}
}

// The consequence: numbers are read back from where they were written, whatever is written or joined behind them.
func TestNumbersAreReadBack(t *testing.T) {
	random := rand.New(rand.NewSource(5))
	type number struct{ at, value, width int }
	for range 200 {
		var numbers []number
		b, s := api.Bits{}, ""
		for range random.Intn(60) {
			width := 1 + random.Intn(24)
			value := random.Intn(1 << width)
			numbers = append(numbers, number{b.Len, value, width})
			longer, e := Append(b, value, width)
			s += digits(value, width)
			check(t, "Append", longer, e, s, api.OK)
			b = longer
		}
		padded, e := Pad(b)
		if e != api.OK || !strings.HasPrefix(text(padded), s) {
			t.Errorf("Pad of %q: %v, %d", s, padded, e)
		}
		before := anyText(random, random.Intn(50))
		joined, _ := Join(list(before), padded)
		for _, n := range numbers {
			checkRead(t, b, n.at, n.width, n.value, api.OK)
			checkRead(t, padded, n.at, n.width, n.value, api.OK)
			checkRead(t, joined, len(before)+n.at, n.width, n.value, api.OK)
		}
	}
}

// The consequence: Join is associative, and the empty list changes nothing.
func TestJoinIsAssociative(t *testing.T) {
	random := rand.New(rand.NewSource(6))
	for range 1000 {
		a, b, c := list(anyText(random, random.Intn(40))), list(anyText(random, random.Intn(40))), list(anyText(random, random.Intn(40)))
		ab, _ := Join(a, b)
		bc, _ := Join(b, c)
		left, _ := Join(ab, c)
		right, _ := Join(a, bc)
		if !Same(left, right) || !Valid(left) || left.Len != a.Len+b.Len+c.Len {
			t.Errorf("Join of %v, %v and %v: %v and %v", a, b, c, left, right)
		}
		before, _ := Join(api.Bits{}, a)
		after, _ := Join(a, api.Bits{})
		if !Same(before, a) || !Same(after, a) {
			t.Errorf("Join of %v and the empty list: %v and %v", a, before, after)
		}
	}
}

// Rule 2: no argument changes, not even behind its end, and results are new memory.
func TestResultsAreNew(t *testing.T) {
	for _, s := range []string{"", "1", "1011011", "10110111", "101101110", "1011011101111011"} {
		memory := slices.Concat(list(s).Bytes, slices.Repeat([]byte{0xAA}, 20))
		before := slices.Clone(memory)
		b := api.Bits{Bytes: memory[:(len(s)+7)/8], Len: len(s)}
		results := map[string]func() api.Bits{
			"Append":                func() api.Bits { r, _ := Append(b, 1<<24-1, 24); return r },
			"Append of one bit":     func() api.Bits { r, _ := Append(b, 1, 1); return r },
			"Join to itself":        func() api.Bits { r, _ := Join(b, b); return r },
			"Join to an empty list": func() api.Bits { r, _ := Join(api.Bits{}, b); return r },
			"Join of an empty list": func() api.Bits { r, _ := Join(b, api.Bits{}); return r },
			"Pad":                   func() api.Bits { r, _ := Pad(b); return r },
		}
		for name, result := range results {
			first, second := result(), result()
			want := slices.Clone(second.Bytes)
			for i := range first.Bytes {
				first.Bytes[i] ^= 255
			}
			if !slices.Equal(memory, before) || !slices.Equal(second.Bytes, want) {
				t.Errorf("%s shares memory or changes it, with %q", name, s)
			}
		}
		Read(b, 0, 1)
		Valid(b)
		Same(b, list(s))
		if !slices.Equal(memory, before) {
			t.Errorf("the list of %q became %v", s, memory)
		}
	}
}
