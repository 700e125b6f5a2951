package binary

import (
	"fmt"
	"math/rand"
	"slices"
	"strings"
	"testing"

	"synoptic/api"
)

// checkDecode compares the message and the damaged blocks of bytes with what is expected.
func checkDecode(t *testing.T, name string, b []byte, l []api.Table, want api.Message, damaged []int) {
	t.Helper()
	got, numbers, e := Decode(b, l)
	if e != api.OK || !equal(got, want) || !slices.Equal(numbers, damaged) {
		t.Errorf("%s: Decode(%v) = %v, %v, %d, not %v, %v", name, b, got, numbers, e, want, damaged)
	}
}

// checkNoMessage compares the error for bytes that are no message with the expected one.
func checkNoMessage(t *testing.T, name string, b []byte, l []api.Table, fault api.Errno) {
	t.Helper()
	got, numbers, e := Decode(b, l)
	if e != fault || !equal(got, api.Message{}) || len(numbers) != 0 {
		t.Errorf("%s: Decode(%v) = %v, %v, %d, not %d", name, b, got, numbers, e, fault)
	}
}

// P9.2 and P9.4: what Encode writes is read back, exactly if all Scales are 1.
func TestDecode(t *testing.T) {
	for _, m := range validMessages() {
		want, e := Rounded(m, tables())
		if e != api.OK || m.Table == 1 && !equal(want, m) {
			t.Errorf("Rounded(%v) = %v, %d", m, want, e)
		}
		checkDecode(t, "valid", bytesOf(m), tables(), want, nil)
		b, _ := Encode(m, tables())
		checkDecode(t, "encoded", b, tables(), want, nil)
	}
	random := rand.New(rand.NewSource(3))
	for range 2000 {
		m := anyMessage(random)
		checkDecode(t, "random", bytesOf(m), tables(), m, nil)
	}
}

// P9.4: with random tables, a report is damaged exactly if a rounded reading is not within its range.
func TestDecodeOfRandomTables(t *testing.T) {
	random := rand.New(rand.NewSource(4))
	intact := 0
	for range 3000 {
		x := []api.Table{anyTable(random)}
		m := anyMessage(random)
		b, e := Encode(m, x)
		if e != api.OK {
			continue
		}
		rounded, _ := Rounded(m, x)
		want := with(rounded, func(m *api.Message) { m.Reports = nil })
		var damaged []int
		for i, r := range rounded.Reports {
			if slices.ContainsFunc(r.Readings, isOutside) {
				damaged = append(damaged, i+1)
			} else {
				want.Reports = append(want.Reports, r)
			}
		}
		if damaged == nil && len(rounded.Reports) > 0 {
			intact++
		}
		checkDecode(t, "random", b, x, want, damaged)
	}
	if intact < 100 {
		t.Errorf("only %d messages without damaged blocks", intact)
	}
}

// isOutside reports whether a reading is not within the range of its element, by the table of chapter 4.
func isOutside(r api.Reading) bool {
	rows := [][2]int{{8000, 11000}, {1800, 3300}, {1800, 3300}, {-1000, 1000}, {-1000, 1000}, {900, 1700}, {2000, 3200}, {2400, 3400}, {2000, 3000}, {4400, 6200}, {2000, 2900}}
	row := rows[r.Element-1]
	return r.Value < row[0] || r.Value > row[1]
}

// P9.2: the number that stands for a reading also stands for values that are not within the range.
func TestDecodeOfReadingsOutside(t *testing.T) {
	m := rough(land(), report(api.Land, "01238", noon, api.Place{}, 1, 11000, 2, 1800), buoy())
	b, e := Encode(m, tables())
	if e != api.OK {
		t.Fatalf("Encode = %d", e)
	}
	want, _ := Rounded(with(m, func(m *api.Message) { m.Reports = slices.Delete(m.Reports, 1, 2) }), tables())
	checkDecode(t, "1300 instead of 1800", b, tables(), want, []int{2})
}

// P9.4: any other byte at any place of a message.
func TestDecodeOfReplacedBytes(t *testing.T) {
	for _, m := range []api.Message{message(), message(land(), ship(), buoy(), all()), rough(buoy(), land(), land()), with(rough(buoy()), func(m *api.Message) { m.Codes = nil })} {
		b, _ := Encode(m, tables())
		whole, _, _ := Decode(b, tables())
		length := blockLength(entriesOf(m))
		start := len(b) - 4 - length*len(m.Reports)
		for i := range b {
			for other := range 256 {
				if byte(other) == b[i] {
					continue
				}
				c := slices.Clone(b)
				c[i] = byte(other)
				if i < start || i >= len(b)-4 {
					if got, damaged, e := Decode(c, tables()); e == api.OK || !equal(got, api.Message{}) || len(damaged) != 0 {
						t.Errorf("the byte %d of %v became %d: %v, %v, %d", i, b, other, got, damaged, e)
					}
					continue
				}
				lost := (i - start) / length
				want := with(whole, func(m *api.Message) { m.Reports = slices.Delete(m.Reports, lost, lost+1) })
				checkDecode(t, fmt.Sprintf("the byte %d became %d", i, other), c, tables(), want, []int{lost + 1})
			}
		}
	}
}

// P9.2: several damaged blocks, and blocks that have changed places, which their last bytes show.
func TestDecodeOfDamagedBlocks(t *testing.T) {
	m := message(land(), ship(), buoy(), all(), land())
	b := bytesOf(m)
	start := 27 + 2 - 4
	length := (len(b) - start - 4) / 5
	for set := range 1 << 5 {
		c := slices.Clone(b)
		want := message()
		var damaged []int
		for i, r := range m.Reports {
			if set>>i&1 == 1 {
				c[start+(i+1)*length-1-i]++
				damaged = append(damaged, i+1)
			} else {
				want.Reports = append(want.Reports, r)
			}
		}
		checkDecode(t, fmt.Sprintf("the blocks %b", set), c, tables(), want, damaged)
	}
	swapped := slices.Concat(b[:start], b[start+length:start+2*length], b[start:start+length], b[start+2*length:])
	checkDecode(t, "swapped", swapped, tables(), message(buoy(), all(), land()), []int{1, 2})
	// The same report again has another last byte.
	copied := slices.Concat(b[:start], b[start:start+length], b[start:start+length], b[start+2*length:])
	checkDecode(t, "copied", copied, tables(), message(land(), buoy(), all(), land()), []int{2})
	noise := slices.Concat(b[:start], slices.Repeat([]byte{255}, 5*length), []byte("7777"))
	checkDecode(t, "all bits 1", noise, tables(), message(), []int{1, 2, 3, 4, 5})
	// The last byte of the first block of zeros is right, but it has no kind.
	zeros := slices.Concat(b[:start], make([]byte, 5*length), []byte("7777"))
	checkDecode(t, "all bits 0", zeros, tables(), message(), []int{1, 2, 3, 4, 5})
}

// blockWith returns the bits of a block without readings.
func blockWith(kind int, name string, time, face, a, b int) string {
	return text(kind, 2) + name + text(time, 16) + text(face, 5) + text(a, 10) + text(b, 10)
}

// nameOf returns the bits of a name with these numbers.
func nameOf(numbers ...int) string {
	s := ""
	for _, n := range numbers {
		s += text(n, 6)
	}
	return s
}

// checkBlock reads a block with a right last byte in the middle of a message of a time; want is nil if it is damaged.
func checkBlock(t *testing.T, name, bits string, time int, codes []int, want *api.Report) {
	t.Helper()
	m := api.Message{Table: 2, Centre: "EDZW", Time: time, Codes: codes}
	x := rawOf(m, nil)
	entries := entriesOf(m)
	other := report(api.Land, "00000", time, api.Place{})
	x.count = 3
	for i, s := range []string{bitsOf(other, time, entries), bits, bitsOf(other, time, entries)} {
		x.blocks = append(x.blocks, checked(s, i)...)
	}
	m.Reports = []api.Report{other, other}
	var damaged []int
	if want == nil {
		damaged = []int{2}
	} else {
		m.Reports = slices.Insert(m.Reports, 1, *want)
	}
	checkDecode(t, name, x.bytes(), tables(), m, damaged)
}

// P9.2: each fault of the bits of a block, with the last byte that fits them.
func TestDecodeOfBlocks(t *testing.T) {
	some := nameOf(0, 9, 10, 35, 17)
	good := func(name, bits string, want api.Report) {
		t.Helper()
		checkBlock(t, name, bits, noon, nil, &want)
	}
	bad := func(name, bits string) {
		t.Helper()
		checkBlock(t, name, bits, noon, nil, nil)
	}
	good("land", blockWith(1, some, 32768, 0, 0, 0), report(api.Land, "09AZH", noon, api.Place{}))
	good("ship", blockWith(2, some, 32768, 0, 0, 0), report(api.Ship, "09AZH", noon, api.Place{C: 840}))
	good("buoy", blockWith(3, some, 32768, 5, 420, 420), report(api.Buoy, "09AZH", noon, api.Place{Face: 5, A: 420, B: 420}))
	good("least time", blockWith(1, some, 0, 0, 0, 0), report(api.Land, "09AZH", noon-32768, api.Place{}))
	good("greatest time", blockWith(1, some, 65535, 0, 0, 0), report(api.Land, "09AZH", noon+32767, api.Place{}))
	good("zeros at the end", blockWith(1, some, 32768, 0, 0, 0)+"0000000", report(api.Land, "09AZH", noon, api.Place{}))
	bad("no kind", blockWith(0, some, 32768, 0, 0, 0))
	bad("no kind, with a place", blockWith(0, some, 32768, 5, 420, 420))
	for n := 36; n < 64; n++ {
		for i := range 5 {
			numbers := []int{0, 9, 10, 35, 17}
			numbers[i] = n
			bad("name", blockWith(1, nameOf(numbers...), 32768, 0, 0, 0))
			bad("name", blockWith(2, nameOf(numbers...), 32768, 5, 420, 420))
		}
	}
	for bit := range 25 {
		place := strings.Repeat("0", bit) + "1" + strings.Repeat("0", 24-bit)
		bad("land with a place", blockWith(1, some, 32768, 0, 0, 0)[:48]+place)
	}
	bad("land with a place", blockWith(1, some, 32768, 5, 420, 420))
	for _, p := range [][3]int{{20, 280, 280}, {31, 280, 280}, {5, 420, 421}, {5, 841, 0}, {5, 0, 841}, {5, 1023, 1023}, {14, 0, 420}, {1, 0, 840}, {1, 840, 0}, {19, 840, 0}, {1, 1, 839}} {
		bad("place", blockWith(2, some, 32768, p[0], p[1], p[2]))
		bad("place", blockWith(3, some, 32768, p[0], p[1], p[2]))
	}
	for bit := range 7 {
		bad("a bit 1 at the end", blockWith(1, some, 32768, 0, 0, 0)+strings.Repeat("0", bit)+"1")
	}
	for _, x := range []struct{ time, n int }{{0, 32767}, {0, 0}, {1, 32766}, {32767, 0}, {api.MaxMinute, 32769}, {api.MaxMinute, 65535}, {api.MaxMinute - 32766, 65535}} {
		checkBlock(t, "time", blockWith(1, some, x.n, 0, 0, 0), x.time, nil, nil)
	}
	for _, x := range []struct{ time, n int }{{0, 32768}, {1, 32767}, {32768, 0}, {api.MaxMinute, 32768}, {api.MaxMinute - 32767, 65535}} {
		r := report(api.Land, "09AZH", x.time+x.n-32768, api.Place{})
		checkBlock(t, "time", blockWith(1, some, x.n, 0, 0, 0), x.time, nil, &r)
	}
}

// P9.2: each number of an entry.
func TestDecodeOfNumbers(t *testing.T) {
	head := blockWith(1, nameOf(0, 0, 0, 0, 0), 32768, 0, 0, 0)
	for n := range 1 << 10 {
		want := report(api.Land, "00000", noon, api.Place{}, 1, 8000+5*n)
		switch {
		case n == 1<<10-1:
			want.Readings = nil
			checkBlock(t, "none", head+text(n, 10), noon, []int{9}, &want)
		case n <= 600:
			checkBlock(t, "within", head+text(n, 10), noon, []int{9}, &want)
		default:
			checkBlock(t, "outside", head+text(n, 10), noon, []int{9}, nil)
		}
	}
	want := report(api.Land, "00000", noon, api.Place{}, 1, 8005, 2, 2300, 4, -1000, 5, 1000)
	checkBlock(t, "sorted", head+text(0, 12)+text(1500, 11)+text(1, 2)+text(1, 10), noon, []int{6, 4, 7, 9}, &want)
	checkBlock(t, "one outside", head+text(0, 12)+text(1501, 11)+text(1, 2)+text(1, 10), noon, []int{6, 4, 7, 9}, nil)
	want.Readings = want.Readings[:1]
	checkBlock(t, "one of four", head+text(4095, 12)+text(2047, 11)+text(3, 2)+text(1, 10), noon, []int{6, 4, 7, 9}, &want)
}

// P9.2: random blocks are read by the words of the chapter.
func TestDecodeOfRandomBlocks(t *testing.T) {
	random := rand.New(rand.NewSource(5))
	intact := 0
	for range 20000 {
		m := api.Message{Table: 1, Centre: "EDZW", Time: random.Intn(api.MaxMinute + 1), Codes: []int{2, 4, 1}}
		if random.Intn(2) == 0 {
			m.Time %= 40000
		}
		entries := entriesOf(m)
		bits := padded(bitsOf(anyReport(random, m.Time, m.Codes), m.Time, entries))
		x := rawOf(m, entries)
		x.count = 3
		want := copyOf(m)
		var damaged []int
		for i := range x.count {
			changed := []byte(bits)
			for range random.Intn(4) {
				k := random.Intn(len(changed))
				changed[k] ^= 1
			}
			x.blocks = append(x.blocks, checked(string(changed), i)...)
			if r, ok := readBits(string(changed), m.Time, entries); ok {
				want.Reports = append(want.Reports, r)
				intact++
			} else {
				damaged = append(damaged, i+1)
			}
		}
		checkDecode(t, "random", x.bytes(), tables(), want, damaged)
	}
	if intact < 10000 || intact > 50000 {
		t.Errorf("%d of 60000 blocks were not damaged", intact)
	}
}

// P9.2: each error with bytes that are right otherwise.
func TestDecodeOfFaults(t *testing.T) {
	bad := func(e api.Errno, name string, change func(x *raw)) {
		t.Helper()
		for _, m := range []api.Message{message(), message(land(), ship()), rough(), rough(buoy())} {
			x := rawOf(m, entriesOf(m))
			change(&x)
			checkNoMessage(t, name, x.bytes(), tables(), e)
		}
	}
	for _, s := range []string{"SYNC", "synb", "TYNB", "SXNB", "SYMB", "\x00\x00\x00\x00", "7777"} {
		bad(api.ErrSyntax, "beginning", func(x *raw) { x.beginning = s })
	}
	for _, s := range []string{"7778", "8777", "7 77", "\x07\x07\x07\x07", "SYNB", "7777\n", "777"} {
		bad(api.ErrSyntax, "end", func(x *raw) { x.end = s })
	}
	for _, n := range []int{1, 65535, 256, 255, 32768} {
		bad(api.ErrChecksum, "first check number", func(x *raw) { x.firstCheck = n })
		bad(api.ErrChecksum, "second check number", func(x *raw) { x.secondCheck = n })
	}
	for _, n := range []int{1, -1, 256, 65536, 1 << 23} {
		bad(api.ErrRange, "number of bytes", func(x *raw) { x.more = n })
	}
	for _, n := range []int{api.MaxMinute + 1, 1 << 26, 1<<31 + noon, 1<<32 - 1} {
		bad(api.ErrRange, "time", func(x *raw) { x.time = n })
	}
	for _, n := range []int{27, 28, 128, 255} {
		bad(api.ErrRange, "correction", func(x *raw) { x.correction = n })
	}
	for _, n := range []int{21, 22, 255} {
		bad(api.ErrRange, "number of codes", func(x *raw) { x.codeCount = n })
		bad(api.ErrRange, "codes", func(x *raw) { x.codeCount, x.codes = n, slices.Repeat([]int{10000}, n) })
	}
	for _, n := range []int{61, 62, 255} {
		bad(api.ErrRange, "number of reports", func(x *raw) { x.count = n })
		bad(api.ErrRange, "reports", func(x *raw) { x.count, x.blocks = n, slices.Repeat([]byte{0}, 20*n) })
	}
	for _, centre := range []string{"edzw", "EDZw", "eDZW", "ED W", " EDZ", "EDZ ", "ED1W", "ED\x00W", "ED@W", "ED[W", "\xff\xff\xff\xff", "EDÄ"} {
		bad(api.ErrSyntax, "centre", func(x *raw) { x.centre = centre })
	}
	for _, version := range []int{0, 3, 99, 100, 255} {
		bad(api.ErrNone, "table", func(x *raw) { x.table = version })
	}
	for e, l := range map[api.Errno][][]int{
		api.ErrRange:   {{0}, {20000}, {20100}, {22021}, {65535}},
		api.ErrMissing: {{99}, {9999}, {19999}, {20101, 9998}},
		api.ErrShort:   {{20101}, {20202, 10000}},
	} {
		for _, codes := range l {
			bad(e, "codes", func(x *raw) { x.codes, x.codeCount = codes, len(codes) })
		}
	}
	for _, codes := range [][]int{{9, 9}, {20102, 9}, {8, 9, 6}} {
		x := rawOf(rough(), nil)
		x.codes, x.codeCount = codes, len(codes)
		checkNoMessage(t, "codes", x.bytes(), tables(), api.ErrDuplicate)
	}
}

// P9.2: a table that is found, but is not valid.
func TestDecodeOfFaultyTables(t *testing.T) {
	for _, version := range []int{0, 100, 255} {
		x := exact()
		x.Version = version
		m := message(land())
		parts := rawOf(m, entriesOf(m))
		parts.table = version
		checkNoMessage(t, "version", parts.bytes(), []api.Table{x}, api.ErrRange)
	}
	x := exact()
	x.Entries[0].Element = 0
	checkNoMessage(t, "element", bytesOf(message(land())), []api.Table{coarse(), x, exact()}, api.ErrKind)
	checkDecode(t, "the first one", bytesOf(message(land())), []api.Table{coarse(), exact(), x}, message(land()), nil)
	checkNoMessage(t, "no table", bytesOf(message(land())), nil, api.ErrNone)
}

// P9.2: bytes that end too early, or go on.
func TestDecodeOfLengths(t *testing.T) {
	for length := range 27 {
		checkNoMessage(t, "zeros", make([]byte, length), tables(), api.ErrShort)
		checkNoMessage(t, "the beginning", bytesOf(message(land()))[:length], tables(), api.ErrShort)
	}
	checkNoMessage(t, "nil", nil, tables(), api.ErrShort)
	checkNoMessage(t, "zeros", make([]byte, 27), tables(), api.ErrSyntax)
	checkNoMessage(t, "zeros", make([]byte, 8000), tables(), api.ErrSyntax)
	checkNoMessage(t, "zeros", make([]byte, 8001), tables(), api.ErrLimit)
	for _, length := range []int{7999, 8000, 8001, 9000, 100000} {
		x := rawOf(message(), nil)
		x.blocks = make([]byte, length-29)
		want := api.ErrShort
		if length > 8000 {
			want = api.ErrLimit
		}
		checkNoMessage(t, "many bytes", x.bytes(), tables(), want)
	}
	b := bytesOf(message(land(), ship()))
	for length := 27; length < len(b); length++ {
		checkNoMessage(t, "the beginning", b[:length], tables(), api.ErrSyntax)
	}
}

// P9.2: the number of bytes is that of the codes and the blocks.
func TestDecodeOfCounts(t *testing.T) {
	for _, m := range []api.Message{message(), message(land(), ship(), buoy()), rough(buoy(), land())} {
		entries := entriesOf(m)
		for count := range 61 {
			x := rawOf(m, entries)
			x.count = count
			if count != len(m.Reports) {
				checkNoMessage(t, "number of reports", x.bytes(), tables(), api.ErrShort)
			}
		}
		for change := -len(rawOf(m, entries).blocks); change < 60; change++ {
			x := rawOf(m, entries)
			x.blocks = append(x.blocks, make([]byte, 60)...)[:len(x.blocks)+change]
			if change != 0 {
				checkNoMessage(t, "bytes of the blocks", x.bytes(), tables(), api.ErrShort)
			}
		}
	}
	for count := range 21 {
		x := rawOf(message(), nil)
		x.codes, x.codeCount = slices.Repeat([]int{10000}, count), count
		want := with(message(), func(m *api.Message) { m.Codes = x.codes })
		checkDecode(t, "codes", x.bytes(), tables(), want, nil)
		for cut := range 2*count + 2 {
			x.cut = cut
			checkNoMessage(t, "cut codes", x.bytes(), tables(), api.ErrShort)
		}
	}
}

// P9.2: of all combinations of faults, the first one named decides.
func TestDecodeReturnsTheFirstError(t *testing.T) {
	faults := []struct {
		e      api.Errno
		change func(x *raw)
	}{
		{api.ErrSyntax, func(x *raw) { x.beginning = "SYNC" }},
		{api.ErrSyntax, func(x *raw) { x.end = "7776" }},
		{api.ErrChecksum, func(x *raw) { x.firstCheck = 1 }},
		{api.ErrRange, func(x *raw) { x.more = 1 }},
		{api.ErrRange, func(x *raw) { x.time = api.MaxMinute + 1 }},
		{api.ErrSyntax, func(x *raw) { x.centre = "edzw" }},
		{api.ErrShort, func(x *raw) { x.cut = 5 }},
		{api.ErrChecksum, func(x *raw) { x.secondCheck = 1 }},
		{api.ErrNone, func(x *raw) { x.table = 3 }},
		{api.ErrMissing, func(x *raw) { x.codes, x.codeCount = append(x.codes, 99), x.codeCount+1 }},
		{api.ErrDuplicate, func(x *raw) { x.codes, x.codeCount = append([]int{9}, x.codes...), x.codeCount+1 }},
		{api.ErrShort, func(x *raw) { x.blocks = append(x.blocks, 0) }},
	}
	for set := 1; set < 1<<len(faults); set++ {
		want := api.OK
		m := rough(land(), ship())
		x := rawOf(m, entriesOf(m))
		for i, f := range faults {
			if set>>i&1 == 1 {
				if want == api.OK {
					want = f.e
				}
				f.change(&x)
			}
		}
		checkNoMessage(t, fmt.Sprintf("the faults %b", set), x.bytes(), tables(), want)
	}
	// The number of codes is out of range before there are not enough bytes for it, and that of reports before the centre is looked at.
	x := rawOf(message(), nil)
	x.codeCount, x.cut, x.centre = 21, 2, "edzw"
	checkNoMessage(t, "codes", x.bytes(), tables(), api.ErrRange)
	x.codeCount, x.count = 1, 61
	checkNoMessage(t, "reports", x.bytes(), tables(), api.ErrRange)
	x.count, x.correction = 0, 27
	checkNoMessage(t, "correction", x.bytes(), tables(), api.ErrRange)
	x.correction = 26
	checkNoMessage(t, "centre", x.bytes(), tables(), api.ErrSyntax)
	x.centre = "EDZW"
	checkNoMessage(t, "short", x.bytes(), tables(), api.ErrShort)
}

// P1: no bytes make Decode panic, and what it returns can be written again.
func TestDecodeOfNoise(t *testing.T) {
	random := rand.New(rand.NewSource(6))
	for range 20000 {
		b := bytesOf(message(land(), ship(), buoy()))
		for range 1 + random.Intn(5) {
			i := random.Intn(len(b))
			switch random.Intn(3) {
			case 0:
				b[i] = byte(random.Intn(256))
			case 1:
				b = slices.Delete(b, i, i+1)
			default:
				b = slices.Insert(b, i, byte(random.Intn(256)))
			}
		}
		if random.Intn(2) == 0 && len(b) >= 27 {
			copy(b, "SYNB")
			copy(b[len(b)-4:], "7777")
			copy(b[4:], packed(text(len(b), 24)))
			copy(b[19:], packed(text(total(b[:19]), 16)))
		}
		m, damaged, e := Decode(b, tables())
		if e != api.OK {
			if !equal(m, api.Message{}) || len(damaged) != 0 {
				t.Errorf("Decode(%v) = %v, %v, %d", b, m, damaged, e)
			}
			continue
		}
		if _, e := Encode(m, tables()); e != api.OK || int(b[18]) != len(m.Reports)+len(damaged) {
			t.Errorf("Decode(%v) = %v, %v, and Encode of it %d", b, m, damaged, e)
		}
	}
}
